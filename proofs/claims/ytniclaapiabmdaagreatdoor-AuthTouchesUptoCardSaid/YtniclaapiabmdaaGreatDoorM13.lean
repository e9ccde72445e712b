/- Texts joined: TxG, TxF, TxL. -/
import Derived.Test.YtniclaapiabmdaaGreatDoorM12
import Derived.Deep.LoopGhost
import Derived.Deep.CutBlock
import Derived.Deep.DeepCutAuto
namespace Go.Proofs.YtniclaapiabmdaaGreatDoor
set_option maxRecDepth 100000
open Go Go.RowKit
set_option linter.unusedVariables false

structure MsgV.fine (m : MsgV) : Prop where
  kd : 0 ≤ m.kd ∧ m.kd ≤ 1073741824
  pn : 0 ≤ m.pf.n ∧ m.pf.n ≤ 1073741824
  at_ : ∀ x ∈ m.pf.ls, 0 ≤ x.at_ ∧ x.at_ ≤ 1073741824
  s1 : m.s1.length ≤ 8
  s2 : m.s2.length ≤ 8
  s3 : m.s3.length ≤ 8
  t1 : m.t1.length ≤ 8
  t2 : m.t2.length ≤ 8
  os : m.os.length ≤ 8
  ls : m.pf.ls.length ≤ 2
  pa : ∀ x ∈ m.pf.ls, x.path.length ≤ 17
  tx : ∀ s ∈ m.texts, s.size ≤ 65535
theorem MsgV.fine_of {m : MsgV} (h1 : numsB m = true) (h2 : listsB m = true) (h3 : fieldsB m = true) : m.fine := by
  simp only [numsB, numB, listsB, fieldsB, Bool.and_eq_true, decide_eq_true_eq, List.all_eq_true] at h1 h2 h3
  obtain ⟨a1, a2, a3⟩ := h1
  obtain ⟨b1, b2, b3, b4, b5, b6, b7, b8⟩ := h2
  exact ⟨a1, a2, fun x hx => a3 x hx, b1, b2, b3, b4, b5, b6, b7, fun x hx => b8 x hx, fun s hs => h3.1 s (by unfold MsgV.allTexts; exact List.mem_append_left _ hs)⟩
theorem encHd_len (H : HdW) : (encHd H).length ≤ 300000 := by
  have h1 := encW_len H.ch
  have h2 := encB_lenW H.rt
  have h3 := encB_lenW H.va
  have h4 := encB_lenW H.nx
  simp only [encHd, List.length_append, be_length]
  omega
theorem encPk_len (H : PkW) : (encPk H).length ≤ 300000 := by
  have h1 := encW_len H.src
  have h2 := encW_len H.dst
  have h3 := encB_lenW H.da
  simp only [encPk, List.length_append, be_length]
  omega
set_option maxRecDepth 100000 in
set_option maxHeartbeats 40000000 in
theorem wxmsg_any {F : Nat → Prop} {W0 w : World} {B g : Nat} {L : List UInt8} (h : WrX F W0 w B g L) (Wm : World) (hZ : Below Wm.heap.size Wm w) (hG : Wm.heap.size ≤ g) (m : MsgV) (hr : m.rd Wm) (hf : m.fine) (hl : L.length ≤ 1000) :
    Calls Tryz.prog 131 #[.pointer (some ⟨g, 0, none⟩), .agg m.cells.toArray] w fun e w' => e = .returned (.tuple #[]) ∧ WrX F W0 w' B g (L ++ encM m) := by
  obtain ⟨LF, hLF⟩ : ∃ LF, LF = L ++ encM m := ⟨_, rfl⟩
  rw [← hLF]
  have HLF := Lib.hid hLF
  have HTX : Hid (∀ s ∈ m.texts, s.size ≤ maxLen) := Lib.hid fun s hs => Nat.le_trans (hf.tx s hs) (by decide)
  have HF := Lib.hid hf
  have HR := Lib.hid hr
  obtain ⟨Aak, cak, hvak⟩ := hr.r_ak.form
  obtain ⟨Aos, cos, hvos, hos⟩ := hr.r_os
  have HOS := Lib.hid hos
  obtain ⟨kd, hkd⟩ : ∃ kd : Nat, m.kd = (kd : Int) := ⟨m.kd.toNat, by have := hf.kd; omega⟩
  have hkt : m.kd.toNat = kd := by rw [hkd]; rfl
  have HKT := Lib.hid hkt
  have hkl : kd ≤ 1073741824 := by have := hf.kd; omega
  have hwk := u64_nat kd (by omega)
  have HKL := Lib.hid hkl
  obtain ⟨G, X0, hng, hback⟩ := h.box (.cells m.cells.toArray 175)
  have hbox := heap_alloc_new w (.cells m.cells.toArray 175)
  have ha0 : Below w.heap.size w (w.alloc (.cells m.cells.toArray 175)) := (Below.refl _ _).alloc (Nat.le_refl _) _
  have hgw : g ≤ w.heap.size := by obtain ⟨v, h1, -⟩ := h.v; exact Nat.le_of_lt (blk_lt h1)
  have hI : ∀ (i : Nat) (u : Value), m.cells[i]? = some u → m.cells.toArray[i]? = some u := fun i u hu => by rw [List.getElem?_toArray]; exact hu
  generalize m.cells.toArray = cs at *
  generalize hW1 : w.alloc (.cells cs 175) = W1 at *
  have HBZ := Lib.hid (hZ.trans (ha0.mono (Nat.le_trans hG hgw)))
  generalize hgg : w.heap.size = g0 at *
  have HC : Hid (∀ Z, Chg W1 Z G → ∀ (i : Nat) (u : Value), m.cells[i]? = some u → Z.cell? ⟨g0, i, none⟩ = some u) := Lib.hid fun Z hz i u hu => (blk_cell ((hz.block _ (blk_lt hbox) hng).trans hbox) i).trans (hI i u hu)
  have HZM : Hid (∀ Z L, WrX G W1 Z B g L → Below Wm.heap.size Wm Z) := Lib.hid fun Z L hz => HBZ.out.trans (hz.below.mono hG)
  have HSZ : Hid (∀ Z L, WrX G W1 Z B g L → Wm.heap.size ≤ Z.heap.size) := Lib.hid fun Z L hz => Nat.le_trans hG (Nat.le_trans (Nat.le_of_lt hz.gW) hz.c.size)
  have HG := Lib.hid hG
  have HBK := Lib.hid hback
  obtain ⟨M0, hM0⟩ : ∃ M0, M0 = L := ⟨_, rfl⟩
  rw [← hM0] at X0
  have HM0 := Lib.hid hM0
  have HL0 : Hid (M0.length ≤ 1000) := Lib.hid (by rw [hM0]; exact hl)
  clear hbox h ha0 hback hng hgw hf hr hos hLF hkt hkl hI hM0 hl hZ hG
  go_enter Tryz.func131, Tryz.ntmps131
  have c0 := HC.out _ X0.c 0 (.int .i64 (kd : Int)) (by rw [← hkd]; rfl)
  have D := Lib.hid (wxn_any X0 kd (by have := HKL.out; omega) (by have := HL0.out; omega))
  clear X0
  go_wp2_with fail
  try rw [hW1]
  clear hW1
  try rw [hgg]
  refine D.out.mono ?_
  rintro e w1 ⟨rfl, Y⟩
  obtain ⟨M1, hM⟩ : ∃ M1, M1 = M0 ++ be kd 8 := ⟨_, rfl⟩
  have X1 : WrX G W1 w1 B g M1 := by rw [hM]; exact Y
  have HL1 : Hid (M1.length ≤ 1008) := Lib.hid (by rw [hM, List.length_append]; have := HL0.out; have := be_length kd 8; omega)
  have HM1 := Lib.hid hM
  clear hM Y D c0
  clear hwk hkd
  have c1 := HC.out _ X1.c 1 (.string m.to) (by rfl)
  have D := Lib.hid (wxt_any X1 m.to (HTX.out _ (by simp [MsgV.texts])) (by have := HL1.out; omega))
  clear X1
  go_wp2_with fail
  refine D.out.mono ?_
  rintro e w2 ⟨rfl, Y⟩
  obtain ⟨M2, hM⟩ : ∃ M2, M2 = M1 ++ encW m.to := ⟨_, rfl⟩
  have X2 : WrX G W1 w2 B g M2 := by rw [hM]; exact Y
  have HL2 : Hid (M2.length ≤ 66547) := Lib.hid (by rw [hM, List.length_append]; have := HL1.out; have := encW_len m.to; omega)
  have HM2 := Lib.hid hM
  clear hM Y D c1
  have c2 := HC.out _ X2.c 2 (.string m.dn) (by rfl)
  have D := Lib.hid (wxt_any X2 m.dn (HTX.out _ (by simp [MsgV.texts])) (by have := HL2.out; omega))
  clear X2
  go_wp2_with fail
  refine D.out.mono ?_
  rintro e w3 ⟨rfl, Y⟩
  obtain ⟨M3, hM⟩ : ∃ M3, M3 = M2 ++ encW m.dn := ⟨_, rfl⟩
  have X3 : WrX G W1 w3 B g M3 := by rw [hM]; exact Y
  have HL3 : Hid (M3.length ≤ 132086) := Lib.hid (by rw [hM, List.length_append]; have := HL2.out; have := encW_len m.dn; omega)
  have HM3 := Lib.hid hM
  clear hM Y D c2
  have c3 := HC.out _ X3.c 3 (.int .u64 (m.am.a : Int)) (by rfl)
  have c4 := HC.out _ X3.c 4 (.int .u64 (m.am.b : Int)) (by rfl)
  have c5 := HC.out _ X3.c 5 (.int .u64 (m.am.c : Int)) (by rfl)
  have c6 := HC.out _ X3.c 6 (.int .u64 (m.am.d : Int)) (by rfl)
  have D := Lib.hid (wxu_any X3 m.am HR.out.ok_am (by have := HL3.out; omega))
  clear X3
  go_wp2_with fail
  refine D.out.mono ?_
  rintro e w4 ⟨rfl, Y⟩
  obtain ⟨M4, hM⟩ : ∃ M4, M4 = M3 ++ encU m.am := ⟨_, rfl⟩
  have X4 : WrX G W1 w4 B g M4 := by rw [hM]; exact Y
  have HL4 : Hid (M4.length ≤ 197625) := Lib.hid (by rw [hM, List.length_append]; have := HL3.out; have := encU_len m.am; omega)
  have HM4 := Lib.hid hM
  clear hM Y D c3 c4 c5 c6
  have c7 := HC.out _ X4.c 7 (.string m.cl) (by rfl)
  have c8 := HC.out _ X4.c 8 (.string m.cc) (by rfl)
  have c9 := HC.out _ X4.c 9 (.string m.cn) (by rfl)
  have c10 := HC.out _ X4.c 10 (.string m.cd) (by rfl)
  have c11 := HC.out _ X4.c 11 (.string m.ch) (by rfl)
  have c12 := HC.out _ X4.c 12 (.string m.ce) (by rfl)
  have c13 := HC.out _ X4.c 13 (.string m.po) (by rfl)
  have c14 := HC.out _ X4.c 14 (.string m.pe) (by rfl)
  have c15 := HC.out _ X4.c 15 (.string m.ve) (by rfl)
  obtain ⟨GT, XB, hngT, hbackT⟩ := X4.box (.cells #[.string m.cl, .string m.cc, .string m.cn, .string m.cd, .string m.ch, .string m.ce, .string m.po, .string m.pe, .string m.ve] 9)
  have hbx := heap_alloc_new w4 (.cells #[.string m.cl, .string m.cc, .string m.cn, .string m.cd, .string m.ch, .string m.ce, .string m.po, .string m.pe, .string m.ve] 9)
  generalize hWT : w4.alloc (.cells #[.string m.cl, .string m.cc, .string m.cn, .string m.cd, .string m.ch, .string m.ce, .string m.po, .string m.pe, .string m.ve] 9) = wBT at *
  generalize hgT : w4.heap.size = gBT at *
  obtain ⟨tl, htl⟩ : ∃ tl : List ByteArray, tl = [m.cl, m.cc, m.cn, m.cd, m.ch, m.ce, m.po, m.pe, m.ve] := ⟨_, rfl⟩
  have hn9 : tl.length = 9 := by rw [htl]; rfl
  have HT : Hid (∀ Z, Chg wBT Z GT → ∀ (k : Nat) (hk : k < tl.length), Z.cell? ⟨gBT, k, none⟩ = some (.string tl[k])) := Lib.hid fun Z hz k hk => by
    refine (blk_cell ((hz.block _ (blk_lt hbx) hngT).trans hbx) k).trans ?_
    have e9 : (#[.string m.cl, .string m.cc, .string m.cn, .string m.cd, .string m.ch, .string m.ce, .string m.po, .string m.pe, .string m.ve] : Array Value) = (tl.map Value.string).toArray := by rw [htl]; rfl
    rw [e9, List.getElem?_toArray, List.getElem?_map, List.getElem?_eq_getElem hk]
    rfl
  have HTT : Hid (∀ s ∈ tl, s.size ≤ maxLen) := Lib.hid fun s hs => HTX.out s (by rw [htl] at hs; simp only [MsgV.texts, List.mem_cons, List.not_mem_nil, or_false] at hs ⊢; rcases hs with h | h | h | h | h | h | h | h | h <;> simp [h])
  have HN9 := Lib.hid hn9
  have HTL := Lib.hid htl
  have HBT := Lib.hid hbackT
  have HXB := Lib.hid XB
  have HLN : Hid (∀ k, ((tl.take k).map encW).flatten.length ≤ 589851) := Lib.hid fun k => by
    have := flatX_len encW 65539 (tl.take k) fun x _ => encW_len x
    have h2 : (tl.take k).length ≤ 9 := by rw [List.length_take]; omega
    omega
  have HNX := Lib.hid (fun (k : Nat) (hk : k < tl.length) => flatX_take encW tl k hk)
  clear hn9 htl hbackT hngT hbx XB X4
  go_wp2_with fail
  try rw [hWT]
  try rw [hgT]
  clear hWT hgT c7 c8 c9 c10 c11 c12 c13 c14 c15
  go_loopw [47] (fun i wr => ∃ k : Nat, k ≤ 9 ∧ i = .int .i64 (k : Int) ∧ Hid (WrX GT wBT wr B g (M4 ++ ((tl.take k).map encW).flatten)))
    (fun i _ => 9 - (intOf i).toNat)
  case atStart => exact ⟨0, Nat.zero_le _, rfl, Lib.hid (by simpa using HXB.out)⟩
  case round =>
    clear HXB
    obtain ⟨k, hk, rfl, HX⟩ := hrel
    by_cases hlt : k < 9
    · have hkl : k < tl.length := by have := HN9.out; omega
      have q0 := HT.out wr HX.out.c k hkl
      have hsx := HTT.out _ (List.getElem_mem hkl)
      have hnx := HNX.out k hkl
      have hkn := HLN.out k
      have i1 : (0 : Int) ≤ (k : Int) := by omega
      have i2 : (k : Int) < 9 := by omega
      generalize tl[k] = x at *
      have D := Lib.hid (wxt_any HX.out x hsx (by rw [List.length_append]; have := HL4.out; omega))
      have HNE : Hid (M4 ++ ((tl.take (k + 1)).map encW).flatten = (M4 ++ ((tl.take k).map encW).flatten) ++ encW x) := Lib.hid (by rw [hnx, List.append_assoc])
      clear hnx hkn hsx HX
      go_wp2_with fail
      refine D.out.mono ?_
      rintro e w5 ⟨rfl, Y⟩
      have HXG : Hid (WrX GT wBT w5 B g (M4 ++ ((tl.take (k + 1)).map encW).flatten)) := Lib.hid (by rw [HNE.out]; exact Y)
      clear D Y q0
      go_wp2_with fail
      exact ⟨⟨k + 1, by omega, by go_num, HXG⟩, by simp [intOf]; omega⟩
    have hk2 : ¬ (k : Int) < 9 := by omega
    obtain rfl : k = 9 := by omega
    have Y : WrX G W1 wr B g (M4 ++ (tl.map encW).flatten) := by have h9 := HBT.out _ _ HX.out; rw [← HN9.out, List.take_length] at h9; exact h9
    obtain ⟨w5, hwr⟩ : ∃ w5, w5 = wr := ⟨_, rfl⟩
    rw [← hwr] at Y ⊢
    rw [HTL.out] at Y
    have hbd : (([m.cl, m.cc, m.cn, m.cd, m.ch, m.ce, m.po, m.pe, m.ve].map encW).flatten).length ≤ 589851 := by have := HLN.out tl.length; rw [List.take_length, HTL.out] at this; exact this
    obtain ⟨M5, hM⟩ : ∃ M5, M5 = M4 ++ ([m.cl, m.cc, m.cn, m.cd, m.ch, m.ce, m.po, m.pe, m.ve].map encW).flatten := ⟨_, rfl⟩
    have X5 : WrX G W1 w5 B g M5 := by rw [hM]; exact Y
    have HL5 : Hid (M5.length ≤ 787476) := Lib.hid (by rw [hM, List.length_append]; have := HL4.out; have := hbd; omega)
    have HM5 := Lib.hid hM
    clear hM Y hbd hwr HX HT HTT HLN HNX HBT hk hk2
    clear HTL HN9
    have c16 := HC.out _ X5.c 16 (.bool m.od) (by rfl)
    have D := Lib.hid (wxf_any X5 m.od (by have := HL5.out; omega))
    clear X5
    go_wp2_with fail
    refine D.out.mono ?_
    rintro e w6 ⟨rfl, Y⟩
    obtain ⟨M6, hM⟩ : ∃ M6, M6 = M5 ++ [fb m.od] := ⟨_, rfl⟩
    have X6 : WrX G W1 w6 B g M6 := by rw [hM]; exact Y
    have HL6 : Hid (M6.length ≤ 787477) := Lib.hid (by rw [hM, List.length_append]; have := HL5.out; have := (show ([fb m.od] : List UInt8).length ≤ 1 from Nat.le_refl _); omega)
    have HM6 := Lib.hid hM
    clear hM Y D c16
    have c17 := HC.out _ X6.c 17 (.string m.h.ch) (by rfl)
    have c18 := HC.out _ X6.c 18 (.int .u64 (m.h.ht : Int)) (by rfl)
    have c19 := HC.out _ X6.c 19 (.int .u64 (m.h.tm : Int)) (by rfl)
    have c20 := HC.out _ X6.c 20 (m.h.vr) (by rfl)
    have c21 := HC.out _ X6.c 21 (m.h.vv) (by rfl)
    have c22 := HC.out _ X6.c 22 (m.h.vn) (by rfl)
    have D := Lib.hid (wxhd_any X6 Wm (HZM.out _ _ X6) HG.out m.h HR.out.r_h (HTX.out _ (by simp [MsgV.texts])) (by have := HL6.out; omega))
    clear X6
    go_wp2_with fail
    refine D.out.mono ?_
    rintro e w7 ⟨rfl, Y⟩
    obtain ⟨M7, hM⟩ : ∃ M7, M7 = M6 ++ encHd m.h := ⟨_, rfl⟩
    have X7 : WrX G W1 w7 B g M7 := by rw [hM]; exact Y
    have HL7 : Hid (M7.length ≤ 1087477) := Lib.hid (by rw [hM, List.length_append]; have := HL6.out; have := encHd_len m.h; omega)
    have HM7 := Lib.hid hM
    clear hM Y D c17 c18 c19 c20 c21 c22
    have c23 := HC.out _ X7.c 23 (.string m.o.ch) (by rfl)
    have c24 := HC.out _ X7.c 24 (.int .u64 (m.o.ht : Int)) (by rfl)
    have c25 := HC.out _ X7.c 25 (.int .u64 (m.o.tm : Int)) (by rfl)
    have c26 := HC.out _ X7.c 26 (m.o.vr) (by rfl)
    have c27 := HC.out _ X7.c 27 (m.o.vv) (by rfl)
    have c28 := HC.out _ X7.c 28 (m.o.vn) (by rfl)
    have D := Lib.hid (wxhd_any X7 Wm (HZM.out _ _ X7) HG.out m.o HR.out.r_o (HTX.out _ (by simp [MsgV.texts])) (by have := HL7.out; omega))
    clear X7
    go_wp2_with fail
    refine D.out.mono ?_
    rintro e w8 ⟨rfl, Y⟩
    obtain ⟨M8, hM⟩ : ∃ M8, M8 = M7 ++ encHd m.o := ⟨_, rfl⟩
    have X8 : WrX G W1 w8 B g M8 := by rw [hM]; exact Y
    have HL8 : Hid (M8.length ≤ 1387477) := Lib.hid (by rw [hM, List.length_append]; have := HL7.out; have := encHd_len m.o; omega)
    have HM8 := Lib.hid hM
    clear hM Y D c23 c24 c25 c26 c27 c28
    have c29 := HC.out _ X8.c 29 (m.vs1) (by rfl)
    have D := Lib.hid (wxset_any X8 Wm (HZM.out _ _ X8) HG.out m.vs1 m.s1 HR.out.r_s1 HF.out.s1 (by have := HL8.out; omega))
    clear X8
    go_wp2_with fail
    refine D.out.mono ?_
    rintro e w9 ⟨rfl, Y⟩
    obtain ⟨M9, hM⟩ : ∃ M9, M9 = M8 ++ encSet m.s1 := ⟨_, rfl⟩
    have X9 : WrX G W1 w9 B g M9 := by rw [hM]; exact Y
    have HL9 : Hid (M9.length ≤ 1987477) := Lib.hid (by rw [hM, List.length_append]; have := HL8.out; have := encSet_len m.s1 HF.out.s1; omega)
    have HM9 := Lib.hid hM
    clear hM Y D c29
    have c30 := HC.out _ X9.c 30 (m.vs2) (by rfl)
    have D := Lib.hid (wxset_any X9 Wm (HZM.out _ _ X9) HG.out m.vs2 m.s2 HR.out.r_s2 HF.out.s2 (by have := HL9.out; omega))
    clear X9
    go_wp2_with fail
    refine D.out.mono ?_
    rintro e w10 ⟨rfl, Y⟩
    obtain ⟨M10, hM⟩ : ∃ M10, M10 = M9 ++ encSet m.s2 := ⟨_, rfl⟩
    have X10 : WrX G W1 w10 B g M10 := by rw [hM]; exact Y
    have HL10 : Hid (M10.length ≤ 2587477) := Lib.hid (by rw [hM, List.length_append]; have := HL9.out; have := encSet_len m.s2 HF.out.s2; omega)
    have HM10 := Lib.hid hM
    clear hM Y D c30
    have c31 := HC.out _ X10.c 31 (m.vs3) (by rfl)
    have D := Lib.hid (wxset_any X10 Wm (HZM.out _ _ X10) HG.out m.vs3 m.s3 HR.out.r_s3 HF.out.s3 (by have := HL10.out; omega))
    clear X10
    go_wp2_with fail
    refine D.out.mono ?_
    rintro e w11 ⟨rfl, Y⟩
    obtain ⟨M11, hM⟩ : ∃ M11, M11 = M10 ++ encSet m.s3 := ⟨_, rfl⟩
    have X11 : WrX G W1 w11 B g M11 := by rw [hM]; exact Y
    have HL11 : Hid (M11.length ≤ 3187477) := Lib.hid (by rw [hM, List.length_append]; have := HL10.out; have := encSet_len m.s3 HF.out.s3; omega)
    have HM11 := Lib.hid hM
    clear hM Y D c31
    have c32 := HC.out _ X11.c 32 (m.vt1) (by rfl)
    have D := Lib.hid (wxvt_any X11 Wm (HZM.out _ _ X11) HG.out m.vt1 m.t1 HR.out.r_t1 HF.out.t1 (by have := HL11.out; omega))
    clear X11
    go_wp2_with fail
    refine D.out.mono ?_
    rintro e w12 ⟨rfl, Y⟩
    obtain ⟨M12, hM⟩ : ∃ M12, M12 = M11 ++ encVt m.t1 := ⟨_, rfl⟩
    have X12 : WrX G W1 w12 B g M12 := by rw [hM]; exact Y
    have HL12 : Hid (M12.length ≤ 3787477) := Lib.hid (by rw [hM, List.length_append]; have := HL11.out; have := encVt_len m.t1 HF.out.t1; omega)
    have HM12 := Lib.hid hM
    clear hM Y D c32
    have c33 := HC.out _ X12.c 33 (m.vt2) (by rfl)
    have D := Lib.hid (wxvt_any X12 Wm (HZM.out _ _ X12) HG.out m.vt2 m.t2 HR.out.r_t2 HF.out.t2 (by have := HL12.out; omega))
    clear X12
    go_wp2_with fail
    refine D.out.mono ?_
    rintro e w13 ⟨rfl, Y⟩
    obtain ⟨M13, hM⟩ : ∃ M13, M13 = M12 ++ encVt m.t2 := ⟨_, rfl⟩
    have X13 : WrX G W1 w13 B g M13 := by rw [hM]; exact Y
    have HL13 : Hid (M13.length ≤ 4387477) := Lib.hid (by rw [hM, List.length_append]; have := HL12.out; have := encVt_len m.t2 HF.out.t2; omega)
    have HM13 := Lib.hid hM
    clear hM Y D c33
    have c34 := HC.out _ X13.c 34 (.int .u64 (m.ht : Int)) (by rfl)
    have c35 := HC.out _ X13.c 35 (.int .u64 (m.tm : Int)) (by rfl)
    have c36 := HC.out _ X13.c 36 (.int .u64 (m.at_ : Int)) (by rfl)
    have c37 := HC.out _ X13.c 37 (.int .u64 (m.per : Int)) (by rfl)
    obtain ⟨GN, XB, hngN, hbackN⟩ := X13.box (.cells #[.int .u64 (m.ht : Int), .int .u64 (m.tm : Int), .int .u64 (m.at_ : Int), .int .u64 (m.per : Int)] 23)
    have hbx := heap_alloc_new w13 (.cells #[.int .u64 (m.ht : Int), .int .u64 (m.tm : Int), .int .u64 (m.at_ : Int), .int .u64 (m.per : Int)] 23)
    generalize hWN : w13.alloc (.cells #[.int .u64 (m.ht : Int), .int .u64 (m.tm : Int), .int .u64 (m.at_ : Int), .int .u64 (m.per : Int)] 23) = wBN at *
    generalize hgN : w13.heap.size = gBN at *
    obtain ⟨tl, htl⟩ : ∃ tl : List Nat, tl = [m.ht, m.tm, m.at_, m.per] := ⟨_, rfl⟩
    have hn9 : tl.length = 4 := by rw [htl]; rfl
    have HT : Hid (∀ Z, Chg wBN Z GN → ∀ (k : Nat) (hk : k < tl.length), Z.cell? ⟨gBN, k, none⟩ = some (.int .u64 (tl[k] : Int))) := Lib.hid fun Z hz k hk => by
      refine (blk_cell ((hz.block _ (blk_lt hbx) hngN).trans hbx) k).trans ?_
      have e9 : (#[.int .u64 (m.ht : Int), .int .u64 (m.tm : Int), .int .u64 (m.at_ : Int), .int .u64 (m.per : Int)] : Array Value) = (tl.map (fun n : Nat => Value.int .u64 (n : Int))).toArray := by rw [htl]; rfl
      rw [e9, List.getElem?_toArray, List.getElem?_map, List.getElem?_eq_getElem hk]
      rfl
    have HTT : Hid (∀ s ∈ tl, s < 18446744073709551616) := Lib.hid fun s hs => by rw [htl] at hs; simp only [List.mem_cons, List.not_mem_nil, or_false] at hs; have a1 := HR.out.lt_ht; have a2 := HR.out.lt_tm; have a3 := HR.out.lt_at_; have a4 := HR.out.lt_per; rcases hs with h | h | h | h <;> (rw [h]; assumption)
    have HN9 := Lib.hid hn9
    have HTL := Lib.hid htl
    have HBN := Lib.hid hbackN
    have HXB := Lib.hid XB
    have HLN : Hid (∀ k, ((tl.take k).map (fun n => be n 8)).flatten.length ≤ 32) := Lib.hid fun k => by
      have := flatX_len (fun n => be n 8) 8 (tl.take k) fun x _ => (fun x => Nat.le_of_eq (be_length x 8)) x
      have h2 : (tl.take k).length ≤ 4 := by rw [List.length_take]; omega
      omega
    have HNX := Lib.hid (fun (k : Nat) (hk : k < tl.length) => flatX_take (fun n => be n 8) tl k hk)
    clear hn9 htl hbackN hngN hbx XB X13
    go_wp2_with fail
    try rw [hWN]
    try rw [hgN]
    clear hWN hgN c34 c35 c36 c37
    go_loopw [97] (fun i wr => ∃ k : Nat, k ≤ 4 ∧ i = .int .i64 (k : Int) ∧ Hid (WrX GN wBN wr B g (M13 ++ ((tl.take k).map (fun n => be n 8)).flatten)))
      (fun i _ => 4 - (intOf i).toNat)
    case atStart => exact ⟨0, Nat.zero_le _, rfl, Lib.hid (by simpa using HXB.out)⟩
    case round =>
      clear HXB
      obtain ⟨k, hk, rfl, HX⟩ := hrel
      by_cases hlt : k < 4
      · have hkl : k < tl.length := by have := HN9.out; omega
        have q0 := HT.out wr HX.out.c k hkl
        have hsx := HTT.out _ (List.getElem_mem hkl)
        have hnx := HNX.out k hkl
        have hkn := HLN.out k
        have i1 : (0 : Int) ≤ (k : Int) := by omega
        have i2 : (k : Int) < 4 := by omega
        generalize tl[k] = x at *
        have D := Lib.hid (wxn_any HX.out x hsx (by rw [List.length_append]; have := HL13.out; omega))
        have HNE : Hid (M13 ++ ((tl.take (k + 1)).map (fun n => be n 8)).flatten = (M13 ++ ((tl.take k).map (fun n => be n 8)).flatten) ++ be x 8) := Lib.hid (by rw [hnx, List.append_assoc])
        clear hnx hkn hsx HX
        go_wp2_with fail
        refine D.out.mono ?_
        rintro e w5 ⟨rfl, Y⟩
        have HXG : Hid (WrX GN wBN w5 B g (M13 ++ ((tl.take (k + 1)).map (fun n => be n 8)).flatten)) := Lib.hid (by rw [HNE.out]; exact Y)
        clear D Y q0
        go_wp2_with fail
        exact ⟨⟨k + 1, by omega, by go_num, HXG⟩, by simp [intOf]; omega⟩
      have hk2 : ¬ (k : Int) < 4 := by omega
      obtain rfl : k = 4 := by omega
      have Y : WrX G W1 wr B g (M13 ++ (tl.map (fun n => be n 8)).flatten) := by have h9 := HBN.out _ _ HX.out; rw [← HN9.out, List.take_length] at h9; exact h9
      obtain ⟨w14, hwr⟩ : ∃ w14, w14 = wr := ⟨_, rfl⟩
      rw [← hwr] at Y ⊢
      rw [HTL.out] at Y
      have hbd : (([m.ht, m.tm, m.at_, m.per].map (fun n => be n 8)).flatten).length ≤ 32 := by have := HLN.out tl.length; rw [List.take_length, HTL.out] at this; exact this
      obtain ⟨M14, hM⟩ : ∃ M14, M14 = M13 ++ ([m.ht, m.tm, m.at_, m.per].map (fun n => be n 8)).flatten := ⟨_, rfl⟩
      have X14 : WrX G W1 w14 B g M14 := by rw [hM]; exact Y
      have HL14 : Hid (M14.length ≤ 4387509) := Lib.hid (by rw [hM, List.length_append]; have := HL13.out; have := hbd; omega)
      have HM14 := Lib.hid hM
      clear hM Y hbd hwr HX HT HTT HLN HNX HBN hk hk2
      clear HTL HN9
      have c38 := HC.out _ X14.c 38 (.string m.pk.src) (by rfl)
      have c39 := HC.out _ X14.c 39 (.string m.pk.dst) (by rfl)
      have c40 := HC.out _ X14.c 40 (.int .u64 (m.pk.seq : Int)) (by rfl)
      have c41 := HC.out _ X14.c 41 (m.pk.vd) (by rfl)
      have c42 := HC.out _ X14.c 42 (.int .u64 (m.pk.ht : Int)) (by rfl)
      have c43 := HC.out _ X14.c 43 (.int .u64 (m.pk.tm : Int)) (by rfl)
      have D := Lib.hid (wxpk_any X14 Wm (HZM.out _ _ X14) HG.out m.pk HR.out.r_pk (HTX.out _ (by simp [MsgV.texts])) (HTX.out _ (by simp [MsgV.texts])) (by have := HL14.out; omega))
      clear X14
      go_wp2_with fail
      refine D.out.mono ?_
      rintro e w15 ⟨rfl, Y⟩
      obtain ⟨M15, hM⟩ : ∃ M15, M15 = M14 ++ encPk m.pk := ⟨_, rfl⟩
      have X15 : WrX G W1 w15 B g M15 := by rw [hM]; exact Y
      have HL15 : Hid (M15.length ≤ 4687509) := Lib.hid (by rw [hM, List.length_append]; have := HL14.out; have := encPk_len m.pk; omega)
      have HM15 := Lib.hid hM
      clear hM Y D c38 c39 c40 c41 c42 c43
      have c44 := HC.out _ X15.c 44 (.slice Aak m.ak.length cak) (by rw [← hvak]; rfl)
      have D := Lib.hid (wxb_any X15 Aak _ cak m.ak (by have h := (HR.out.r_ak.below (HZM.out _ _ X15)).more (HSZ.out _ _ X15); rw [hvak] at h; exact h) (by have := HL15.out; omega))
      clear X15
      go_wp2_with fail
      refine D.out.mono ?_
      rintro e w16 ⟨rfl, Y⟩
      obtain ⟨M16, hM⟩ : ∃ M16, M16 = M15 ++ encB m.ak := ⟨_, rfl⟩
      have X16 : WrX G W1 w16 B g M16 := by rw [hM]; exact Y
      have HL16 : Hid (M16.length ≤ 4753048) := Lib.hid (by rw [hM, List.length_append]; have := HL15.out; have := encB_lenW m.ak; omega)
      have HM16 := Lib.hid hM
      clear hM Y D c44
      have c45 := HC.out _ X16.c 45 (.int .i64 m.pf.n) (by rfl)
      have c46 := HC.out _ X16.c 46 (m.vpf) (by rfl)
      have D := Lib.hid (wxpf_any X16 Wm (HZM.out _ _ X16) HG.out m.pf m.vpf HR.out.r_pf HF.out.pn HF.out.at_ HF.out.ls HF.out.pa (by have := HL16.out; omega))
      clear X16
      go_wp2_with fail
      refine D.out.mono ?_
      rintro e w17 ⟨rfl, Y⟩
      obtain ⟨M17, hM⟩ : ∃ M17, M17 = M16 ++ encPf m.pf := ⟨_, rfl⟩
      have X17 : WrX G W1 w17 B g M17 := by rw [hM]; exact Y
      have HL17 : Hid (M17.length ≤ 7753048) := Lib.hid (by rw [hM, List.length_append]; have := HL16.out; have := encPf_len m.pf HF.out.ls HF.out.pa; omega)
      have HM17 := Lib.hid hM
      clear hM Y D c45 c46
      have c47 := HC.out _ X17.c 47 (.int .u64 (m.nx : Int)) (by rfl)
      have D := Lib.hid (wxn_any X17 m.nx HR.out.lt_nx (by have := HL17.out; omega))
      clear X17
      go_wp2_with fail
      refine D.out.mono ?_
      rintro e w18 ⟨rfl, Y⟩
      obtain ⟨M18, hM⟩ : ∃ M18, M18 = M17 ++ be m.nx 8 := ⟨_, rfl⟩
      have X18 : WrX G W1 w18 B g M18 := by rw [hM]; exact Y
      have HL18 : Hid (M18.length ≤ 7753056) := Lib.hid (by rw [hM, List.length_append]; have := HL17.out; have := be_length m.nx 8; omega)
      have HM18 := Lib.hid hM
      clear hM Y D c47
      have c48 := HC.out _ X18.c 48 (.string m.pay.d) (by rfl)
      have D := Lib.hid (wxt_any X18 m.pay.d (HTX.out _ (by simp [MsgV.texts])) (by have := HL18.out; omega))
      clear X18
      go_wp2_with fail
      refine D.out.mono ?_
      rintro e w19 ⟨rfl, Y⟩
      obtain ⟨M19, hM⟩ : ∃ M19, M19 = M18 ++ encW m.pay.d := ⟨_, rfl⟩
      have X19 : WrX G W1 w19 B g M19 := by rw [hM]; exact Y
      have HL19 : Hid (M19.length ≤ 7818595) := Lib.hid (by rw [hM, List.length_append]; have := HL18.out; have := encW_len m.pay.d; omega)
      have HM19 := Lib.hid hM
      clear hM Y D c48
      have c49 := HC.out _ X19.c 49 (.int .u64 (m.pay.x.a : Int)) (by rfl)
      have c50 := HC.out _ X19.c 50 (.int .u64 (m.pay.x.b : Int)) (by rfl)
      have c51 := HC.out _ X19.c 51 (.int .u64 (m.pay.x.c : Int)) (by rfl)
      have c52 := HC.out _ X19.c 52 (.int .u64 (m.pay.x.d : Int)) (by rfl)
      have D := Lib.hid (wxu_any X19 m.pay.x HR.out.ok_pay.1 (by have := HL19.out; omega))
      clear X19
      go_wp2_with fail
      refine D.out.mono ?_
      rintro e w20 ⟨rfl, Y⟩
      obtain ⟨M20, hM⟩ : ∃ M20, M20 = M19 ++ encU m.pay.x := ⟨_, rfl⟩
      have X20 : WrX G W1 w20 B g M20 := by rw [hM]; exact Y
      have HL20 : Hid (M20.length ≤ 7884134) := Lib.hid (by rw [hM, List.length_append]; have := HL19.out; have := encU_len m.pay.x; omega)
      have HM20 := Lib.hid hM
      clear hM Y D c49 c50 c51 c52
      have c53 := HC.out _ X20.c 53 (.int .u64 (m.pay.y.a : Int)) (by rfl)
      have c54 := HC.out _ X20.c 54 (.int .u64 (m.pay.y.b : Int)) (by rfl)
      have c55 := HC.out _ X20.c 55 (.int .u64 (m.pay.y.c : Int)) (by rfl)
      have c56 := HC.out _ X20.c 56 (.int .u64 (m.pay.y.d : Int)) (by rfl)
      have D := Lib.hid (wxu_any X20 m.pay.y HR.out.ok_pay.2.1 (by have := HL20.out; omega))
      clear X20
      go_wp2_with fail
      refine D.out.mono ?_
      rintro e w21 ⟨rfl, Y⟩
      obtain ⟨M21, hM⟩ : ∃ M21, M21 = M20 ++ encU m.pay.y := ⟨_, rfl⟩
      have X21 : WrX G W1 w21 B g M21 := by rw [hM]; exact Y
      have HL21 : Hid (M21.length ≤ 7949673) := Lib.hid (by rw [hM, List.length_append]; have := HL20.out; have := encU_len m.pay.y; omega)
      have HM21 := Lib.hid hM
      clear hM Y D c53 c54 c55 c56
      have c57 := HC.out _ X21.c 57 (.int .u64 (m.pay.z.a : Int)) (by rfl)
      have c58 := HC.out _ X21.c 58 (.int .u64 (m.pay.z.b : Int)) (by rfl)
      have c59 := HC.out _ X21.c 59 (.int .u64 (m.pay.z.c : Int)) (by rfl)
      have c60 := HC.out _ X21.c 60 (.int .u64 (m.pay.z.d : Int)) (by rfl)
      have D := Lib.hid (wxu_any X21 m.pay.z HR.out.ok_pay.2.2 (by have := HL21.out; omega))
      clear X21
      go_wp2_with fail
      refine D.out.mono ?_
      rintro e w22 ⟨rfl, Y⟩
      obtain ⟨M22, hM⟩ : ∃ M22, M22 = M21 ++ encU m.pay.z := ⟨_, rfl⟩
      have X22 : WrX G W1 w22 B g M22 := by rw [hM]; exact Y
      have HL22 : Hid (M22.length ≤ 8015212) := Lib.hid (by rw [hM, List.length_append]; have := HL21.out; have := encU_len m.pay.z; omega)
      have HM22 := Lib.hid hM
      clear hM Y D c57 c58 c59 c60
      obtain ⟨n, hnn⟩ : ∃ n, n = m.os.length := ⟨_, rfl⟩
      have HNN := Lib.hid hnn
      have hn8 : n ≤ 8 := by rw [hnn]; exact HF.out.os
      have hvos2 := hvos
      rw [← hnn] at hvos2
      have hw0 := u64_nat n (by omega)
      have HVOS := Lib.hid hvos2
      clear hnn hvos hvos2
      have c61 := HC.out _ X22.c 61 (.slice Aos n cos) (by rw [← HVOS.out]; rfl)
      have D := Lib.hid (wxn_any X22 n (by omega) (by have := HL22.out; omega))
      clear X22
      go_wp2_with fail
      refine D.out.mono ?_
      rintro e w23 ⟨rfl, Y⟩
      obtain ⟨M23, hM⟩ : ∃ M23, M23 = M22 ++ be n 8 := ⟨_, rfl⟩
      have X23 : WrX G W1 w23 B g M23 := by rw [hM]; exact Y
      have HL23 : Hid (M23.length ≤ 8015220) := Lib.hid (by rw [hM, List.length_append]; have := HL22.out; have := be_length n 8; omega)
      have HM23 := Lib.hid hM
      clear hM Y D c61
      clear hw0
      have c61 := HC.out _ X23.c 61 (.slice Aos n cos) (by rw [← HVOS.out]; rfl)
      have HX0 := Lib.hid X23
      have HCELL : Hid (∀ Z L, WrX G W1 Z B g L → ∀ j (hj : j < m.os.length), ∃ b o, Aos = some ⟨b, o, none⟩ ∧ ∀ (i : Nat) (u : Value), i < 6 → m.os[j].cells[i]? = some u → Z.cell? ⟨b, o + j * 6 + i, none⟩ = some u) := Lib.hid fun Z L hz j hj => by
        obtain ⟨b, o, hA, hb, hat⟩ := HOS.out (by omega)
        exact ⟨b, o, hA, fun i u hi hu => ((HZM.out _ _ hz).cell (p := ⟨b, _, none⟩) hb).trans (hat j hj i u hi hu)⟩
      have HLN : Hid (∀ k, ((m.os.take k).map encOr).flatten.length ≤ 1600000) := Lib.hid fun k => by
        have := flatX_len encOr 200000 (m.os.take k) fun x _ => encOr_len x
        have h2 : (m.os.take k).length ≤ 8 := by rw [List.length_take]; have := HF.out.os; omega
        omega
      have HNX := Lib.hid (fun (k : Nat) (hk : k < m.os.length) => flatX_take encOr m.os k hk)
      clear X23
      go_wp2_with fail
      clear c61
      go_loopw [150] (fun i wr => ∃ k : Nat, k ≤ n ∧ i = .int .i64 (k : Int) ∧ Hid (WrX G W1 wr B g (M23 ++ ((m.os.take k).map encOr).flatten)))
        (fun i _ => n - (intOf i).toNat)
      case atStart => exact ⟨0, Nat.zero_le _, rfl, Lib.hid (by simpa using HX0.out)⟩
      case round =>
        clear HX0
        obtain ⟨k, hk, rfl, HX⟩ := hrel
        by_cases hlt : k < n
        · have hkl : k < m.os.length := by have := HNN.out; omega
          obtain ⟨b, o, rfl, hq⟩ := HCELL.out wr _ HX.out k hkl
          have hox := HR.out.ok_os _ (List.getElem_mem hkl)
          have hnx := HNX.out k hkl
          have hkn := HLN.out k
          have i1 : (0 : Int) ≤ (k : Int) := by omega
          have i2 : (k : Int) < (n : Int) := by omega
          generalize m.os[k] = x at *
          have q0 := hq 0 (.string x.t) (by omega) rfl
          have q1 := hq 1 (.string x.d) (by omega) rfl
          have q2 := hq 2 (.int .u64 (x.x.a : Int)) (by omega) rfl
          have q3 := hq 3 (.int .u64 (x.x.b : Int)) (by omega) rfl
          have q4 := hq 4 (.int .u64 (x.x.c : Int)) (by omega) rfl
          have q5 := hq 5 (.int .u64 (x.x.d : Int)) (by omega) rfl
          simp only [Nat.add_zero] at q0
          obtain ⟨MK, hMK⟩ : ∃ MK, MK = M23 ++ ((m.os.take k).map encOr).flatten := ⟨_, rfl⟩
          have hMN : M23 ++ ((m.os.take (k + 1)).map encOr).flatten = MK ++ encOr x := by rw [hnx, hMK, List.append_assoc]
          have hle : MK.length ≤ 20000000 := by rw [hMK, List.length_append]; have := HL23.out; omega
          rw [← hMK] at HX
          have HMN := Lib.hid hMN
          have HLE := Lib.hid hle
          clear hMK hnx hkn hMN hle hq
          obtain ⟨G2, X1, hng, hback⟩ := HX.out.box (.cells #[.string x.t, .string x.d, .int .u64 (x.x.a : Int), .int .u64 (x.x.b : Int), .int .u64 (x.x.c : Int), .int .u64 (x.x.d : Int)] 215)
          have hbox := heap_alloc_new wr (.cells #[.string x.t, .string x.d, .int .u64 (x.x.a : Int), .int .u64 (x.x.b : Int), .int .u64 (x.x.c : Int), .int .u64 (x.x.d : Int)] 215)
          generalize hW2 : wr.alloc (.cells #[.string x.t, .string x.d, .int .u64 (x.x.a : Int), .int .u64 (x.x.b : Int), .int .u64 (x.x.c : Int), .int .u64 (x.x.d : Int)] 215) = W2 at *
          generalize hg2 : wr.heap.size = g1 at *
          have HC2 : Hid (∀ Z, Chg W2 Z G2 → ∀ (i : Nat) (u : Value), x.cells[i]? = some u → Z.cell? ⟨g1, i, none⟩ = some u) := Lib.hid fun Z hz i u hu => (blk_cell ((hz.block _ (blk_lt hbox) hng).trans hbox) i).trans hu
          have HB2 := Lib.hid hback
          have HOX := Lib.hid hox
          clear hbox hback hng hox HX
          have c0 := HC2.out _ (Chg.refl _ _) 0 (.string x.t) rfl
          have bx := encW_len x.t
          have by_ := encW_len x.d
          go_wp2_with fail
          try rw [hW2]
          clear hW2
          try rw [hg2]
          have D1 := Lib.hid (wxt_any X1 x.t HOX.out.2.1 (by have := HLE.out; omega))
          clear X1
          refine D1.out.mono ?_
          rintro e w5 ⟨rfl, X5⟩
          clear D1 c0 q0 q1 q2 q3 q4 q5
          have c1 := HC2.out _ X5.c 1 (.string x.d) rfl
          go_wp2_with fail
          have D2 := Lib.hid (wxt_any X5 x.d HOX.out.2.2 (by rw [List.length_append]; have := HLE.out; omega))
          clear X5
          refine D2.out.mono ?_
          rintro e w6 ⟨rfl, X6⟩
          clear D2 c1
          have c2 := HC2.out _ X6.c 2 (.int .u64 (x.x.a : Int)) rfl
          have c3 := HC2.out _ X6.c 3 (.int .u64 (x.x.b : Int)) rfl
          have c4 := HC2.out _ X6.c 4 (.int .u64 (x.x.c : Int)) rfl
          have c5 := HC2.out _ X6.c 5 (.int .u64 (x.x.d : Int)) rfl
          go_wp2_with fail
          have D3 := Lib.hid (wxu_any X6 x.x HOX.out.1 (by rw [List.length_append, List.length_append]; have := HLE.out; omega))
          clear X6
          refine D3.out.mono ?_
          rintro e w7 ⟨rfl, X7⟩
          clear D3 c2 c3 c4 c5
          have HXF := Lib.hid (HB2.out _ _ X7)
          have HXG : Hid (WrX G W1 w7 B g (M23 ++ ((m.os.take (k + 1)).map encOr).flatten)) := Lib.hid (by rw [HMN.out]; have := HXF.out; simpa only [encOr, encU, List.append_assoc] using this)
          clear HXF X7
          go_wp2_with fail
          exact ⟨⟨k + 1, by omega, by go_num, HXG⟩, by simp [intOf]; omega⟩
        · have hk2 : ¬ (k : Int) < (n : Int) := by omega
          obtain rfl : k = n := by omega
          have XF := HBK.out _ _ HX.out
          have hend : M23 ++ ((m.os.take k).map encOr).flatten = LF := by
            rw [HNN.out, List.take_length, HLF.out, HM23.out, HM22.out, HM21.out, HM20.out, HM19.out, HM18.out, HM17.out, HM16.out, HM15.out, HM14.out, HM13.out, HM12.out, HM11.out, HM10.out, HM9.out, HM8.out, HM7.out, HM6.out, HM5.out, HM4.out, HM3.out, HM2.out, HM1.out, HM0.out]
            rw [HNN.out]
            simp only [encM, encOs, HKT.out, List.append_assoc]
          rw [hend] at XF
          clear HX HCELL
          go_wp2_with fail
          go_end0
          exact ⟨rfl, XF⟩
end Go.Proofs.YtniclaapiabmdaaGreatDoor
namespace Go.Proofs.YtniclaapiabmdaaGreatDoor
set_option maxRecDepth 100000
open Go Go.RowKit
set_option linter.unusedVariables false

theorem numfits_any (n : Int) (w : World) :
    Calls Tryz.prog 195 #[.int .i64 n] w fun e w' => e = .returned (.bool (numB n)) ∧ w = w' := by
  by_cases h1 : 0 ≤ n
  · have d1 : decide (0 ≤ n) = true := by simpa using h1
    by_cases h2 : n ≤ 1073741824
    · have hv : numB n = true := by simp [numB, h1, h2]
      rw [hv]
      go_enter Tryz.func195, Tryz.ntmps195
      go_wp2_with fail
      go_ret
      simp [h1, h2]
    · have hv : numB n = false := by simp [numB, h2]
      rw [hv]
      go_enter Tryz.func195, Tryz.ntmps195
      go_wp2_with fail
      go_ret
      simp [h1, h2]
  · have hv : numB n = false := by simp [numB, h1]
    rw [hv]
    go_enter Tryz.func195, Tryz.ntmps195
    go_wp2_with fail
    go_ret
    simp [h1]

/-- a leaf's cells, from leaves handed in -/
theorem leaf_cells {W : World} {B : Nat} {A : Option Addr} {n c : Nat} {ls : List Lf} (h : LeavesV W B (.slice A n c) ls) {Z : World} (hz : Below B W Z) (j : Nat) (hj : j < ls.length) :
    ∃ b o sv pv A1 c1 A2 c2, A = some ⟨b, o, none⟩ ∧ sv = .slice A1 ls[j].val.length c1 ∧ pv = .slice A2 ls[j].path.length c2 ∧ Z.cell? ⟨b, o + j * 4, none⟩ = some (.int .i64 ls[j].at_) ∧ Z.cell? ⟨b, o + j * 4 + 1, none⟩ = some (.string ls[j].key) ∧ Z.cell? ⟨b, o + j * 4 + 2, none⟩ = some sv ∧ Z.cell? ⟨b, o + j * 4 + 3, none⟩ = some pv ∧ LeafAt Z B b (o + j * 4) ls[j] := by
  obtain ⟨A', c', e, _, _, hp⟩ := h
  injection e with e1 e2 e3
  subst e1
  obtain ⟨b, o, hA, hb, hat⟩ := hp (by omega)
  have hl := (hat j hj).below hz hb
  have hl0 := hl
  obtain ⟨sv, pv, q0, q1, q2, q3, sv', pv', heq, hrv, hpv, hks, -⟩ := hl
  injection heq with heq
  simp only [Array.mk.injEq, List.cons.injEq, and_true, true_and] at heq
  obtain ⟨rfl, rfl⟩ := heq
  obtain ⟨A1, k1, rfl⟩ := hrv.form
  obtain ⟨A2, k2, rfl, -⟩ := hpv
  exact ⟨b, o, _, _, A1, k1, A2, k2, hA, rfl, rfl, q0, q1, q2, q3, hl0⟩

set_option maxHeartbeats 16000000 in
theorem numsfit_any (w : World) (m : MsgV) (hr : m.rd w) :
    Calls Tryz.prog 166 #[.agg m.cells.toArray] w fun e w' => e = .returned (.bool (numsB m)) ∧ Below w.heap.size w w' := by
  obtain ⟨A, c, hvp⟩ : ∃ A c, m.vpf = .slice A m.pf.ls.length c := by obtain ⟨A, c, e, _⟩ := hr.r_pf; exact ⟨A, c, e⟩
  have hlv := hr.r_pf
  rw [hvp] at hlv
  have HLV := Lib.hid (fun (Z : World) (hz : Below w.heap.size w Z) => leaf_cells hlv hz)
  have ha0 : Below w.heap.size w (w.alloc (.cells m.cells.toArray 175)) := (Below.refl _ _).alloc (Nat.le_refl _) _
  have hbox := heap_alloc_new w (.cells m.cells.toArray 175)
  have hI : ∀ (i : Nat) (u : Value), m.cells[i]? = some u → m.cells.toArray[i]? = some u := fun i u hu => by rw [List.getElem?_toArray]; exact hu
  generalize m.cells.toArray = cs at *
  generalize hW1 : w.alloc (.cells cs 175) = W1 at *
  have HA0 := Lib.hid ha0
  have hc0 := (blk_cell hbox 0).trans (hI 0 (.int .i64 m.kd) rfl)
  have hc45 := (blk_cell hbox 45).trans (hI 45 (.int .i64 m.pf.n) rfl)
  have hc46 := (blk_cell hbox 46).trans (hI 46 (.slice A m.pf.ls.length c) (by rw [← hvp]; rfl))
  have N0 := Lib.hid (fun (Z : World) => numfits_any m.kd Z)
  have N1 := Lib.hid (fun (Z : World) => numfits_any m.pf.n Z)
  have HRES : Hid (numsB m = (numB m.kd && (numB m.pf.n && m.pf.ls.all (fun l => numB l.at_)))) := Lib.hid rfl
  obtain ⟨rs, hrs⟩ : ∃ rs, rs = numsB m := ⟨_, rfl⟩
  rw [← hrs] at HRES ⊢
  clear hrs hI hbox ha0 hr
  obtain ⟨mls, hmls⟩ : ∃ k, k = m.pf.ls.length := ⟨_, rfl⟩
  have HMX : Hid (mls ≤ maxLen) := Lib.hid (by obtain ⟨A', c', e, h1, h2, -⟩ := hlv; rw [hmls]; omega)
  clear hlv
  generalize hg1 : w.heap.size = g0 at *
  have HGG := Lib.hid hg1
  obtain ⟨ls, hls⟩ : ∃ ls, ls = m.pf.ls := ⟨_, rfl⟩
  rw [← hls] at HRES HLV hc46
  obtain ⟨n, hnn⟩ : ∃ n, n = ls.length := ⟨_, rfl⟩
  have HNN := Lib.hid hnn
  rw [← hnn] at hc46
  have HN63 : Hid (n ≤ maxLen) := Lib.hid (by rw [hnn, hls, ← hmls]; exact HMX.out)
  clear hmls
  cases hb0 : numB m.kd
  · rw [hb0] at N0 HRES
    have hres : rs = false := by rw [HRES.out]; rfl
    rw [hres]
    clear hres HRES HLV hls hvp hnn hb0
    go_enter Tryz.func166, Tryz.ntmps166
    go_wp2_with fail
    try rw [hW1]
    try rw [hg1]
    refine (N0.out _).mono ?_
    rintro e w5 ⟨rfl, rfl⟩
    go_wp2_with fail
    go_ret
    exact ⟨rfl, HA0.out⟩
  · cases hb1 : numB m.pf.n
    · rw [hb0] at N0
      rw [hb1] at N1
      have hres : rs = false := by rw [HRES.out, hb0, hb1]; rfl
      rw [hres]
      clear hres HRES HLV hls hvp hnn hb0 hb1
      go_enter Tryz.func166, Tryz.ntmps166
      go_wp2_with fail
      try rw [hW1]
      try rw [hg1]
      refine (N0.out _).mono ?_
      rintro e w5 ⟨rfl, rfl⟩
      go_wp2_with fail
      refine (N1.out _).mono ?_
      rintro e w5 ⟨rfl, rfl⟩
      go_wp2_with fail
      go_ret
      exact ⟨rfl, HA0.out⟩
    · have HRS : Hid (rs = ls.all (fun l => numB l.at_)) := Lib.hid (by rw [HRES.out, hb0, hb1]; rfl)
      rw [hb0] at N0
      rw [hb1] at N1
      clear HRES hls hvp hnn hb0 hb1
      go_enter Tryz.func166, Tryz.ntmps166
      go_wp2_with fail
      try rw [hW1]
      try rw [hg1]
      refine (N0.out _).mono ?_
      rintro e w5 ⟨rfl, rfl⟩
      go_wp2_with fail
      refine (N1.out _).mono ?_
      rintro e w5 ⟨rfl, rfl⟩
      go_wp2_with fail
      clear hc0 hc45 hc46 N0 N1
      go_loopw [20] (fun i wr => ∃ k : Nat, k ≤ n ∧ i = .int .i64 (k : Int) ∧ Hid (Below g0 w wr ∧ (∀ j (h : j < ls.length), j < k → numB ls[j].at_ = true)))
        (fun i _ => n - (intOf i).toNat)
      case atStart => exact ⟨0, Nat.zero_le _, rfl, Lib.hid ⟨HA0.out, fun j _ h => absurd h (by omega)⟩⟩
      case round =>
        obtain ⟨k, hk, rfl, HX⟩ := hrel
        by_cases hlt : k < n
        · have hkl : k < ls.length := by have := HNN.out; omega
          obtain ⟨b, o, sv, pv, A1, c1, A2, c2, rfl, rfl, rfl, q0, q1, q2, q3, -⟩ := HLV.out wr HX.out.1 k hkl
          have i1 : (0 : Int) ≤ (k : Int) := by omega
          have i2 : (k : Int) < (n : Int) := by omega
          have hkm : (k : Int) + 1 ≤ 9223372036854775807 := by have := HN63.out; unfold maxLen at this; omega
          have HK : Hid (∀ b, numB ls[k].at_ = b → (b = true → (∀ j (h : j < ls.length), j < k + 1 → numB ls[j].at_ = true)) ∧ (b = false → rs = false)) := Lib.hid fun b hb => ⟨fun e j h hj => by
            by_cases hjk : j = k
            · subst hjk; rw [hb]; exact e
            · exact HX.out.2 j h (by omega), fun e => by
            rw [HRS.out, List.all_eq_false]
            exact ⟨ls[k], List.getElem_mem hkl, by rw [hb, e]; simp⟩⟩
          generalize ls[k] = x at *
          have ha := (Below.refl wr.heap.size wr).alloc (Nat.le_refl _) (.cells #[.int .i64 x.at_, .string x.key, .slice A1 x.val.length c1, .slice A2 x.path.length c2] 232)
          have HA1 := Lib.hid (HX.out.1.trans (ha.mono (by have := HX.out.1.size; rw [HGG.out] at this; exact this)))
          have z0 := blk_cell (heap_alloc_new wr (.cells #[.int .i64 x.at_, .string x.key, .slice A1 x.val.length c1, .slice A2 x.path.length c2] 232)) 0
          generalize hW2 : wr.alloc (.cells #[.int .i64 x.at_, .string x.key, .slice A1 x.val.length c1, .slice A2 x.path.length c2] 232) = W2 at *
          generalize hg2 : wr.heap.size = g2 at *
          have ND := numfits_any x.at_ W2
          obtain ⟨bb, hbb⟩ : ∃ bb, bb = numB x.at_ := ⟨_, rfl⟩
          rw [← hbb] at ND
          have HK2 := HK.out bb hbb.symm
          have HK3 := Lib.hid HK2
          have HND := Lib.hid ND
          clear HK HK2 ND hbb ha HX
          go_wp2_with fail
          try rw [hW2]
          clear hW2
          try rw [hg2]
          refine HND.out.mono ?_
          rintro e w6 ⟨rfl, rfl⟩
          clear HND q0 q1 q2 q3 z0
          cases bb
          · go_wp2_with fail
            go_ret
            refine ⟨?_, HA1.out⟩
            rw [HK3.out.2 (by simp)]
            rfl
          · have HNX := Lib.hid (And.intro HA1.out (HK3.out.1 rfl))
            go_wp2_with fail
            exact ⟨⟨k + 1, by omega, by go_num, HNX⟩, by simp [intOf]; omega⟩
        · have hk2 : ¬ (k : Int) < (n : Int) := by omega
          obtain rfl : k = n := by omega
          have hres : rs = true := by
            rw [HRS.out, List.all_eq_true]
            intro x hx
            obtain ⟨j, hj, rfl⟩ := List.getElem_of_mem hx
            exact HX.out.2 j hj (by rw [HNN.out]; exact hj)
          have hfin := HX.out.1
          clear HX HRS HLV
          go_wp2_with fail
          go_ret
          exact ⟨rfl, hfin⟩
end Go.Proofs.YtniclaapiabmdaaGreatDoor
namespace Go.Proofs.YtniclaapiabmdaaGreatDoor
set_option maxRecDepth 100000
open Go Go.RowKit
set_option linter.unusedVariables false

def LB (m : MsgV) : Prop := m.s1.length ≤ 8 ∧ m.s2.length ≤ 8 ∧ m.s3.length ≤ 8 ∧ m.t1.length ≤ 8 ∧ m.t2.length ≤ 8 ∧ m.os.length ≤ 8 ∧ m.pf.ls.length ≤ 2 ∧ ∀ x ∈ m.pf.ls, x.path.length ≤ 17
theorem listsB_iff (m : MsgV) : listsB m = true ↔ LB m := by
  simp only [listsB, LB, Bool.and_eq_true, decide_eq_true_eq, List.all_eq_true]
theorem listsB_no {m : MsgV} (h : ¬ LB m) : listsB m = false := by
  cases e : listsB m
  · rfl
  · exact absurd ((listsB_iff m).1 e) h
set_option maxHeartbeats 40000000 in
theorem listsfit_any (w : World) (m : MsgV) (hr : m.rd w) :
    Calls Tryz.prog 167 #[.agg m.cells.toArray] w fun e w' => e = .returned (.bool (listsB m)) ∧ Below w.heap.size w w' := by
  obtain ⟨As1, cs1, hvs1, hxs1⟩ : ∃ A c, m.vs1 = .slice A m.s1.length c ∧ m.s1.length ≤ maxLen := by obtain ⟨A, c, e, h1, h2, _⟩ := hr.r_s1; exact ⟨A, c, e, by omega⟩
  obtain ⟨As2, cs2, hvs2, hxs2⟩ : ∃ A c, m.vs2 = .slice A m.s2.length c ∧ m.s2.length ≤ maxLen := by obtain ⟨A, c, e, h1, h2, _⟩ := hr.r_s2; exact ⟨A, c, e, by omega⟩
  obtain ⟨As3, cs3, hvs3, hxs3⟩ : ∃ A c, m.vs3 = .slice A m.s3.length c ∧ m.s3.length ≤ maxLen := by obtain ⟨A, c, e, h1, h2, _⟩ := hr.r_s3; exact ⟨A, c, e, by omega⟩
  obtain ⟨At1, ct1, hvt1, hxt1⟩ : ∃ A c, m.vt1 = .slice A m.t1.length c ∧ m.t1.length ≤ maxLen := by obtain ⟨A, c, e, h1, h2, _⟩ := hr.r_t1; exact ⟨A, c, e, by omega⟩
  obtain ⟨At2, ct2, hvt2, hxt2⟩ : ∃ A c, m.vt2 = .slice A m.t2.length c ∧ m.t2.length ≤ maxLen := by obtain ⟨A, c, e, h1, h2, _⟩ := hr.r_t2; exact ⟨A, c, e, by omega⟩
  obtain ⟨Aos, cos, hvos, -⟩ := hr.r_os
  obtain ⟨Alf, clf, hvlf, hxlf⟩ : ∃ A c, m.vpf = .slice A m.pf.ls.length c ∧ m.pf.ls.length ≤ maxLen := by obtain ⟨A, c, e, h1, h2, _⟩ := hr.r_pf; exact ⟨A, c, e, by omega⟩
  have hlv := hr.r_pf
  rw [hvlf] at hlv
  have HLV := Lib.hid (fun (Z : World) (hz : Below w.heap.size w Z) => leaf_cells hlv hz)
  have ha0 : Below w.heap.size w (w.alloc (.cells m.cells.toArray 175)) := (Below.refl _ _).alloc (Nat.le_refl _) _
  have hbox := heap_alloc_new w (.cells m.cells.toArray 175)
  have hsz : (w.alloc (.cells m.cells.toArray 175)).heap.size = w.heap.size + 1 := by simp
  have hI : ∀ (i : Nat) (u : Value), m.cells[i]? = some u → m.cells.toArray[i]? = some u := fun i u hu => by rw [List.getElem?_toArray]; exact hu
  generalize m.cells.toArray = cs at *
  generalize hW1 : w.alloc (.cells cs 175) = W1 at *
  have c29 := (blk_cell hbox 29).trans (hI 29 (.slice As1 m.s1.length cs1) (by rw [← hvs1]; rfl))
  have c30 := (blk_cell hbox 30).trans (hI 30 (.slice As2 m.s2.length cs2) (by rw [← hvs2]; rfl))
  have c31 := (blk_cell hbox 31).trans (hI 31 (.slice As3 m.s3.length cs3) (by rw [← hvs3]; rfl))
  have c32 := (blk_cell hbox 32).trans (hI 32 (.slice At1 m.t1.length ct1) (by rw [← hvt1]; rfl))
  have c33 := (blk_cell hbox 33).trans (hI 33 (.slice At2 m.t2.length ct2) (by rw [← hvt2]; rfl))
  have c61 := (blk_cell hbox 61).trans (hI 61 (.slice Aos m.os.length cos) (by rw [← hvos]; rfl))
  have c46 := (blk_cell hbox 46).trans (hI 46 (.slice Alf m.pf.ls.length clf) (by rw [← hvlf]; rfl))
  obtain ⟨rs, hrs⟩ : ∃ rs, rs = listsB m := ⟨_, rfl⟩
  rw [← hrs]
  have HY : Hid (LB m → rs = true) := Lib.hid fun h => by rw [hrs]; exact (listsB_iff m).2 h
  have HN : Hid (¬ LB m → rs = false) := Lib.hid fun h => by rw [hrs]; exact listsB_no h
  have HXL := Lib.hid hxlf
  have HA0 := Lib.hid ha0
  have HCL : Hid (∀ Z, Below W1.heap.size W1 Z → Z.cell? ⟨w.heap.size, 32, none⟩ = some (.slice At1 m.t1.length ct1) ∧ Z.cell? ⟨w.heap.size, 33, none⟩ = some (.slice At2 m.t2.length ct2) ∧ Z.cell? ⟨w.heap.size, 61, none⟩ = some (.slice Aos m.os.length cos) ∧ Z.cell? ⟨w.heap.size, 46, none⟩ = some (.slice Alf m.pf.ls.length clf)) := Lib.hid fun Z hz => ⟨(hz.cell (p := ⟨_, 32, none⟩) (by rw [hsz]; exact Nat.lt_succ_self _)).trans c32, (hz.cell (p := ⟨_, 33, none⟩) (by rw [hsz]; exact Nat.lt_succ_self _)).trans c33, (hz.cell (p := ⟨_, 61, none⟩) (by rw [hsz]; exact Nat.lt_succ_self _)).trans c61, (hz.cell (p := ⟨_, 46, none⟩) (by rw [hsz]; exact Nat.lt_succ_self _)).trans c46⟩
  have HWS : Hid (w.heap.size ≤ W1.heap.size) := Lib.hid (by rw [hsz]; exact Nat.le_succ _)
  clear hrs hI hbox ha0 hr hlv hvs1 hvs2 hvs3 hvt1 hvt2 hvos hvlf hxs1 hxs2 hxs3 hxt1 hxt2 hxlf hsz c32 c33 c61 c46
  generalize hg1 : w.heap.size = g0 at *
  have HGG := Lib.hid hg1
  obtain ⟨ln, hln⟩ : ∃ ln : List Nat, ln = [m.s1.length, m.s2.length, m.s3.length] := ⟨_, rfl⟩
  have hl3 : ln.length = 3 := by rw [hln]; rfl
  have HNL : Hid (∀ k (h : k < ln.length), ¬ ln[k] ≤ 8 → rs = false) := Lib.hid fun k h hx => HN.out fun hb => hx (by
    have hm := List.getElem_mem h
    generalize ln[k] = y at *
    rw [hln] at hm
    simp only [List.mem_cons, List.not_mem_nil, or_false] at hm
    rcases hm with e | e | e <;> rw [e]
    · exact hb.1
    · exact hb.2.1
    · exact hb.2.2.1)
  have HYL : Hid ((∀ k (h : k < ln.length), ln[k] ≤ 8) → m.s1.length ≤ 8 ∧ m.s2.length ≤ 8 ∧ m.s3.length ≤ 8) := Lib.hid fun h => ⟨by have := h 0 (by omega); simpa [hln] using this, by have := h 1 (by omega); simpa [hln] using this, by have := h 2 (by omega); simpa [hln] using this⟩
  have hbx := heap_alloc_new W1 (.cells #[.slice As1 m.s1.length cs1, .slice As2 m.s2.length cs2, .slice As3 m.s3.length cs3] 164)
  have hb2 := (Below.refl W1.heap.size W1).alloc (Nat.le_refl _) (.cells #[.slice As1 m.s1.length cs1, .slice As2 m.s2.length cs2, .slice As3 m.s3.length cs3] 164)
  have hsz2 : (W1.alloc (.cells #[.slice As1 m.s1.length cs1, .slice As2 m.s2.length cs2, .slice As3 m.s3.length cs3] 164)).heap.size = W1.heap.size + 1 := by simp
  generalize hW2 : W1.alloc (.cells #[.slice As1 m.s1.length cs1, .slice As2 m.s2.length cs2, .slice As3 m.s3.length cs3] 164) = W2 at *
  generalize hg2 : W1.heap.size = gB at *
  have HT : Hid (∀ Z, Below W2.heap.size W2 Z → ∀ k (h : k < ln.length), ∃ A c, Z.cell? ⟨gB, k, none⟩ = some (.slice A ln[k] c)) := Lib.hid fun Z hz k hk => by
    have e := fun i => (hz.cell (p := ⟨gB, i, none⟩) (by rw [hsz2]; exact Nat.lt_succ_self _)).trans (blk_cell hbx i)
    have h3 : k < 3 := by omega
    rcases (by omega : k = 0 ∨ k = 1 ∨ k = 2) with rfl | rfl | rfl
    · exact ⟨As1, cs1, (e 0).trans (by simp [hln])⟩
    · exact ⟨As2, cs2, (e 1).trans (by simp [hln])⟩
    · exact ⟨As3, cs3, (e 2).trans (by simp [hln])⟩
  have HA2 := Lib.hid hb2
  have HL3 := Lib.hid hl3
  clear hbx hb2 hsz2 hl3 hln
  go_enter Tryz.func167, Tryz.ntmps167
  go_upto_block 0 with fail
  try rw [hW1]
  try rw [hg1]
  try rw [hW2]
  try rw [hg2]
  clear hW1 hW2 hg1 hg2 c29 c30 c31
  go_cut [] (fun wx => Hid (Below g0 w wx ∧ Below gB W1 wx ∧ ∀ k (h : k < ln.length), ln[k] ≤ 8))
  case first =>
    go_wp2_with fail
    go_loopw [15] (fun i wr => ∃ k : Nat, k ≤ 3 ∧ i = .int .i64 (k : Int) ∧ Hid (W2 = wr ∧ ∀ j (h : j < ln.length), j < k → ln[j] ≤ 8))
      (fun i _ => 3 - (intOf i).toNat)
    case atStart => exact ⟨0, by omega, rfl, Lib.hid ⟨rfl, fun j _ h => absurd h (by omega)⟩⟩
    case round =>
      obtain ⟨k, hk, rfl, HX0⟩ := hrel
      obtain rfl := HX0.out.1
      have HX := Lib.hid HX0.out.2
      clear HX0
      by_cases hlt : k < 3
      · have hkl : k < ln.length := by have := HL3.out; omega
        obtain ⟨A, c, q0⟩ := HT.out _ (Below.refl _ _) k hkl
        have i1 : (0 : Int) ≤ (k : Int) := by omega
        have i2 : (k : Int) < 3 := by omega
        have hno := HNL.out k hkl
        have HK : Hid (ln[k] ≤ 8 → ∀ j (h : j < ln.length), j < k + 1 → ln[j] ≤ 8) := Lib.hid fun h8 j h hj => by
          by_cases hjk : j = k
          · subst hjk; exact h8
          · exact HX.out j h (by omega)
        generalize ln[k] = x at *
        by_cases h8 : x ≤ 8
        · have h9 : ¬ (8 : Int) < (x : Int) := by omega
          have HKN := Lib.hid (HK.out h8)
          clear HK hno h8 HX
          go_wp2_with fail
          exact ⟨⟨k + 1, by omega, by go_num, Lib.hid ⟨by first | trivial | rfl, HKN.out⟩⟩, by simp [intOf]; omega⟩
        · have h9 : (8 : Int) < (x : Int) := by omega
          have hres := Lib.hid (hno h8)
          clear HK hno h8 HX
          go_wp2_with fail
          go_ret
          refine ⟨?_, HA0.out.trans (HA2.out.mono HWS.out)⟩
          rw [hres.out]
          rfl
      · have hk2 : ¬ (k : Int) < 3 := by omega
        obtain rfl : k = 3 := by omega
        have HXL3 : Hid (∀ k (h : k < ln.length), ln[k] ≤ 8) := Lib.hid fun j h => HX.out j h (by have := HL3.out; omega)
        clear HX
        go_wp2_with fail
        go_meet
        case rel => exact Lib.hid ⟨HA0.out.trans (HA2.out.mono HWS.out), HA2.out, HXL3.out⟩
  case rest =>
    have HX := hcut
    clear hcut
    obtain ⟨c32, c33, c61, c46⟩ := HCL.out _ HX.out.2.1
    obtain ⟨n, hnn⟩ : ∃ n, n = m.pf.ls.length := ⟨_, rfl⟩
    have HNN := Lib.hid hnn
    rw [← hnn] at c46
    obtain ⟨n1, hn1⟩ : ∃ n, n = m.t1.length := ⟨_, rfl⟩
    rw [← hn1] at c32
    obtain ⟨n2, hn2⟩ : ∃ n, n = m.t2.length := ⟨_, rfl⟩
    rw [← hn2] at c33
    obtain ⟨n3, hn3⟩ : ∃ n, n = m.os.length := ⟨_, rfl⟩
    rw [← hn3] at c61
    have HBAD : Hid (¬ n1 ≤ 8 ∨ ¬ n2 ≤ 8 ∨ ¬ n3 ≤ 8 ∨ ¬ n ≤ 2 → rs = false) := Lib.hid fun h => HN.out fun hb => by rw [hn1, hn2, hn3, hnn] at h; obtain ⟨_, _, _, b1, b2, b3, b4, _⟩ := hb; omega
    have HOK : Hid (n1 ≤ 8 → n2 ≤ 8 → n3 ≤ 8 → n ≤ 2 → (∀ x ∈ m.pf.ls, x.path.length ≤ 17) → rs = true) := Lib.hid fun a1 a2 a3 a4 a5 => HY.out (by obtain ⟨b1, b2, b3⟩ := HYL.out HX.out.2.2; rw [hn1] at a1; rw [hn2] at a2; rw [hn3] at a3; rw [hnn] at a4; exact ⟨b1, b2, b3, a1, a2, a3, a4, a5⟩)
    have HPB : Hid (∀ k (h : k < m.pf.ls.length), ¬ m.pf.ls[k].path.length ≤ 17 → rs = false) := Lib.hid fun k h hx => HN.out fun hb => hx (hb.2.2.2.2.2.2.2 _ (List.getElem_mem h))
    clear hn1 hn2 hn3 hnn HY HN HYL HNL HT HCL HL3
    by_cases h0 : n1 ≤ 8
    case neg =>
      have d0 : (8 : Int) < (n1 : Int) := by omega
      have hres := Lib.hid (HBAD.out (by omega))
      clear h0
      go_wp2_with fail
      go_ret
      refine ⟨?_, HX.out.1⟩
      rw [hres.out]
      rfl
    have d0 : ¬ (8 : Int) < (n1 : Int) := by omega
    by_cases h1 : n2 ≤ 8
    case neg =>
      have d1 : (8 : Int) < (n2 : Int) := by omega
      have hres := Lib.hid (HBAD.out (by omega))
      clear h0 h1
      go_wp2_with fail
      go_ret
      refine ⟨?_, HX.out.1⟩
      rw [hres.out]
      rfl
    have d1 : ¬ (8 : Int) < (n2 : Int) := by omega
    by_cases h2 : n3 ≤ 8
    case neg =>
      have d2 : (8 : Int) < (n3 : Int) := by omega
      have hres := Lib.hid (HBAD.out (by omega))
      clear h0 h1 h2
      go_wp2_with fail
      go_ret
      refine ⟨?_, HX.out.1⟩
      rw [hres.out]
      rfl
    have d2 : ¬ (8 : Int) < (n3 : Int) := by omega
    by_cases h3 : n ≤ 2
    case neg =>
      have d3 : (2 : Int) < (n : Int) := by omega
      have hres := Lib.hid (HBAD.out (by omega))
      clear h0 h1 h2 h3
      go_wp2_with fail
      go_ret
      refine ⟨?_, HX.out.1⟩
      rw [hres.out]
      rfl
    have d3 : ¬ (2 : Int) < (n : Int) := by omega
    have HOK2 := Lib.hid (HOK.out h0 h1 h2 h3)
    clear h0 h1 h2 HOK HBAD
    go_wp2_with fail
    go_loopw [50] (fun i wr => ∃ k : Nat, k ≤ n ∧ i = .int .i64 (k : Int) ∧ Hid (Below g0 w wr ∧ (∀ j (h : j < m.pf.ls.length), j < k → m.pf.ls[j].path.length ≤ 17)))
      (fun i _ => n - (intOf i).toNat)
    case atStart => exact ⟨0, Nat.zero_le _, rfl, Lib.hid ⟨HX.out.1, fun j _ h => absurd h (by omega)⟩⟩
    case round =>
      clear HX
      obtain ⟨k, hk, rfl, HX⟩ := hrel
      by_cases hlt : k < n
      · have hkl : k < m.pf.ls.length := by have := HNN.out; omega
        obtain ⟨b, o, sv, pv, A1, c1, A2, c2, rfl, rfl, rfl, q0, q1, q2, q3, -⟩ := HLV.out wr HX.out.1 k hkl
        have i1 : (0 : Int) ≤ (k : Int) := by omega
        have i2 : (k : Int) < (n : Int) := by omega
        have hno := HPB.out k hkl
        have HK : Hid (m.pf.ls[k].path.length ≤ 17 → ∀ j (h : j < m.pf.ls.length), j < k + 1 → m.pf.ls[j].path.length ≤ 17) := Lib.hid fun h8 j h hj => by
          by_cases hjk : j = k
          · subst hjk; exact h8
          · exact HX.out.2 j h (by omega)
        generalize m.pf.ls[k] = x at *
        have ha := (Below.refl wr.heap.size wr).alloc (Nat.le_refl _) (.cells #[.int .i64 x.at_, .string x.key, .slice A1 x.val.length c1, .slice A2 x.path.length c2] 232)
        have HA1 := Lib.hid (HX.out.1.trans (ha.mono (by have := HX.out.1.size; rw [HGG.out] at this; exact this)))
        have z3 := blk_cell (heap_alloc_new wr (.cells #[.int .i64 x.at_, .string x.key, .slice A1 x.val.length c1, .slice A2 x.path.length c2] 232)) 3
        generalize hW2 : wr.alloc (.cells #[.int .i64 x.at_, .string x.key, .slice A1 x.val.length c1, .slice A2 x.path.length c2] 232) = W2 at *
        generalize hg2 : wr.heap.size = g2 at *
        generalize x.path.length = xl at *
        by_cases h8 : xl ≤ 17
        · have h9 : ¬ (17 : Int) < (xl : Int) := by omega
          have HNX := Lib.hid (And.intro HA1.out (HK.out h8))
          clear HK hno h8 HX ha
          go_wp2_with fail
          try rw [hW2]
          exact ⟨⟨k + 1, by omega, by go_num, HNX⟩, by simp [intOf]; omega⟩
        · have h9 : (17 : Int) < (xl : Int) := by omega
          have hres := Lib.hid (hno h8)
          clear HK hno h8 HX ha
          go_wp2_with fail
          go_ret
          try rw [hW2]
          refine ⟨?_, HA1.out⟩
          rw [hres.out]
          rfl
      · have hk2 : ¬ (k : Int) < (n : Int) := by omega
        obtain rfl : k = n := by omega
        have hres := Lib.hid (HOK2.out (by
          intro x hx
          obtain ⟨j, hj, rfl⟩ := List.getElem_of_mem hx
          exact HX.out.2 j hj (by rw [HNN.out]; exact hj)))
        have hfin := HX.out.1
        clear HX HLV HOK2
        go_wp2_with fail
        go_ret
        refine ⟨?_, hfin⟩
        rw [hres.out]
        rfl
end Go.Proofs.YtniclaapiabmdaaGreatDoor
