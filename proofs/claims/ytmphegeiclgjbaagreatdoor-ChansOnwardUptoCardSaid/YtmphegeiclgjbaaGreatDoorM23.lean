/- Texts joined: ChR. -/
import Derived.Test.YtmphegeiclgjbaaGreatDoorM22
import Derived.Deep.MidRow
namespace Go.Proofs.YtmphegeiclgjbaaGreatDoor
set_option maxRecDepth 100000
open Go Go.RowKit
set_option linter.unusedVariables false

set_option maxHeartbeats 64000000 in
theorem chrun_any {W w : World} {y : Lyr} {l : List Lyr} {R : List Pr} {k : Nat} (h : At W y l R k w) (hn : y.n + k + 6 ≤ maxLen) (x : StepV) (hm : x.m.rd w) (hf : x.fine) (hT : Pows w)
    (fr : TypeId × Nat × Nat) (hk : w.heap[0]? = some (.cells kVals fr.1 fr.2)) :
    Calls Tryz.prog 39 #[.pointer (some ⟨y.b, 0, none⟩), .agg x.cells.toArray] w fun e w' => e = .returned (.int .i64 (stepM16 R x).1) ∧ At W y l (stepM16 R x).2 (k + 6) w' ∧ Kept w w' := by
  obtain ⟨⟨UE, UR⟩, hU⟩ : ∃ p, p = stepM16 R x := ⟨_, rfl⟩
  rw [← hU]
  have HU := Lib.hid hU
  clear hU
  have HSZ : Hid (∀ s ∈ x.m.texts, s.size ≤ 1048576) := Lib.hid hf.m.t
  have hlt := hf.now
  have HUP := Lib.hid (fun (Z : World) (hz : Below w.heap.size w Z) => h.up hz)
  have H2 : Hid (∀ Z, Below w.heap.size w Z → Calls Tryz.prog 47 #[.pointer (some ⟨y.b, 0, none⟩), .agg #[.string x.m.h.ch, .int .u64 (x.m.h.ht : Int), .int .u64 (x.m.h.tm : Int), x.m.h.vr, x.m.h.vv, x.m.h.vn], .int .u64 (x.m.per : Int), .int .u64 (x.now : Int)] Z fun e w' => (∃ s, e = .returned (.tuple #[.string s, .int .i64 (((createE (hdOf x.m.h) x.m.per x.now, if createE (hdOf x.m.h) x.m.per x.now = 0 then createR R (hdOf x.m.h) x.m.per else R) : Int × List Pr)).1])) ∧ At W y l (((createE (hdOf x.m.h) x.m.per x.now, if createE (hdOf x.m.h) x.m.per x.now = 0 then createR R (hdOf x.m.h) x.m.per else R) : Int × List Pr)).2 (k + 6) w' ∧ Kept Z w') := Lib.hid fun Z hz => (clcreateU_any (h.up hz) (by omega) (hT.kept (Kept.of_belowX hz)) (hdOf x.m.h) x.m.per x.now x.m.h.vr x.m.h.vv x.m.h.vn ((hm.keptM (Kept.of_belowX hz)).r_h.r) ((hm.keptM (Kept.of_belowX hz)).r_h.v) ((hm.keptM (Kept.of_belowX hz)).r_h.n) (by show x.m.h.ch.size ≤ _; have := HSZ.out x.m.h.ch (by simp [MsgV.texts]); omega) hm.r_h.ht hm.r_h.tm hm.lt_per).mono fun e w' ⟨h1, h2, h3⟩ => ⟨⟨_, h1⟩, h2.more (by omega), h3⟩
  have H3 : Hid (∀ Z, Below w.heap.size w Z → Calls Tryz.prog 25 #[.pointer (some ⟨y.b, 0, none⟩), .string x.m.cl, (nwOf x.m).val, .int .u64 (x.now : Int)] Z fun e w' => e = .returned (.int .i64 (updM R x.m.cl (nwOf x.m) x.now).1) ∧ At W y l (updM R x.m.cl (nwOf x.m) x.now).2 (k + 6) w' ∧ Kept Z w') := Lib.hid fun Z hz => (clupd_any (h.up hz) (by omega) x.m.cl (by have := HSZ.out x.m.cl (by simp [MsgV.texts]); omega) (nwOf x.m) (nwOf_rd (hm.keptM (Kept.of_belowX hz)) hf.m) x.now hlt fr ((hz.block _ (blk_lt hk)).trans hk)).mono fun e w' ⟨h1, h2, h3⟩ => ⟨h1, h2.more (by omega), h3⟩
  have H4 : Hid (∀ Z, Below w.heap.size w Z → Calls Tryz.prog 55 #[.pointer (some ⟨y.b, 0, none⟩), .string x.m.cl, (nwOf x.m).val, (nw2Of x.m).val, .int .u64 (x.now : Int)] Z fun e w' => e = .returned (.int .i64 (misM R x.m.cl (nwOf x.m) (nw2Of x.m) x.now).1) ∧ At W y l (misM R x.m.cl (nwOf x.m) (nw2Of x.m) x.now).2 (k + 6) w' ∧ Kept Z w') := Lib.hid fun Z hz => (clmis_any (h.up hz) (by omega) x.m.cl (by have := HSZ.out x.m.cl (by simp [MsgV.texts]); omega) (nwOf x.m) (nw2Of x.m) (nwOf_rd (hm.keptM (Kept.of_belowX hz)) hf.m) (nw2Of_rd (hm.keptM (Kept.of_belowX hz)) hf.m) (by show x.m.h.ch.size ≤ _; have := HSZ.out x.m.h.ch (by simp [MsgV.texts]); unfold maxLen; omega) (by show x.m.o.ch.size ≤ _; have := HSZ.out x.m.o.ch (by simp [MsgV.texts]); unfold maxLen; omega) x.now hlt fr ((hz.block _ (blk_lt hk)).trans hk)).mono fun e w' ⟨h1, h2, h3⟩ => ⟨h1, h2.more (by omega), h3⟩
  have H5 : Hid (∀ Z, Below w.heap.size w Z → Calls Tryz.prog 77 #[.pointer (some ⟨y.b, 0, none⟩), .string x.m.cl, .string x.m.cc] Z fun e w' => (∃ s, e = .returned (.tuple #[.string s, .int .i64 (cnBeginP R x.m.cl x.m.cc).1])) ∧ At W y l (cnBeginP R x.m.cl x.m.cc).2 (k + 6) w' ∧ Kept Z w') := Lib.hid fun Z hz => (cnbeginU_any (h.up hz) (by omega) (hT.kept (Kept.of_belowX hz)) x.m.cl x.m.cc (by have := HSZ.out x.m.cl (by simp [MsgV.texts]); omega) (by have := HSZ.out x.m.cc (by simp [MsgV.texts]); omega)).mono fun e w' ⟨h1, h2, h3⟩ => ⟨⟨_, h1⟩, h2.more (by omega), h3⟩
  have H6 : Hid (∀ Z, Below w.heap.size w Z → ∀ (A : Option Addr) (c : Nat), x.m.vpf = .slice A x.m.pf.ls.length c → Calls Tryz.prog 80 #[.pointer (some ⟨y.b, 0, none⟩), .string x.m.cl, .string x.m.cc, .string x.m.cd, .int .u64 (x.m.ht : Int), .agg #[.int .i64 x.m.pf.n, .slice A x.m.pf.ls.length c], .int .u64 (x.now : Int)] Z fun e w' => (∃ s, e = .returned (.tuple #[.string s, .int .i64 (cnTryP R x.m.cl x.m.cc x.m.cd x.m.ht x.now x.m.pf).1])) ∧ At W y l (cnTryP R x.m.cl x.m.cc x.m.cd x.m.ht x.now x.m.pf).2 (k + 6) w' ∧ Kept Z w') := Lib.hid fun Z hz A c hv => (cntry_any (h.up hz) (by omega) (hT.kept (Kept.of_belowX hz)) x.m.cl x.m.cc x.m.cd (by have := HSZ.out x.m.cl (by simp [MsgV.texts]); omega) (by have := HSZ.out x.m.cc (by simp [MsgV.texts]); omega) (by have := HSZ.out x.m.cd (by simp [MsgV.texts]); omega) x.m.ht x.now hm.lt_ht hlt x.m.pf.n A x.m.pf.ls.length c x.m.pf (fun Y hy => ⟨_, rfl, by rw [← hv]; exact (hm.keptM ((Kept.of_belowX hz).transX (Kept.of_belowX hy))).r_pf, hm.in_pf⟩) fr ((hz.block _ (blk_lt hk)).trans hk)).mono fun e w' ⟨h1, h2, h3⟩ => ⟨⟨_, h1⟩, h2.more (by omega), h3⟩
  have H7 : Hid (∀ Z, Below w.heap.size w Z → ∀ (A : Option Addr) (c : Nat), x.m.vpf = .slice A x.m.pf.ls.length c → Calls Tryz.prog 78 #[.pointer (some ⟨y.b, 0, none⟩), .string x.m.cn, .string x.m.cd, .int .u64 (x.m.ht : Int), .agg #[.int .i64 x.m.pf.n, .slice A x.m.pf.ls.length c], .int .u64 (x.now : Int)] Z fun e w' => e = .returned (.int .i64 (cnAckP R x.m.cn x.m.cd x.m.ht x.now x.m.pf).1) ∧ At W y l (cnAckP R x.m.cn x.m.cd x.m.ht x.now x.m.pf).2 (k + 6) w' ∧ Kept Z w') := Lib.hid fun Z hz A c hv => (cnackP_any (h.up hz) (by omega) x.m.cn x.m.cd (by have := HSZ.out x.m.cn (by simp [MsgV.texts]); omega) (by have := HSZ.out x.m.cd (by simp [MsgV.texts]); omega) x.m.ht x.now hm.lt_ht hlt x.m.pf.n A x.m.pf.ls.length c x.m.pf (fun Y hy => ⟨_, rfl, by rw [← hv]; exact (hm.keptM ((Kept.of_belowX hz).transX (Kept.of_belowX hy))).r_pf, hm.in_pf⟩) fr ((hz.block _ (blk_lt hk)).trans hk)).mono fun e w' ⟨h1, h2, h3⟩ => ⟨h1, h2.more (by omega), h3⟩
  have H8 : Hid (∀ Z, Below w.heap.size w Z → ∀ (A : Option Addr) (c : Nat), x.m.vpf = .slice A x.m.pf.ls.length c → Calls Tryz.prog 81 #[.pointer (some ⟨y.b, 0, none⟩), .string x.m.cn, .int .u64 (x.m.ht : Int), .agg #[.int .i64 x.m.pf.n, .slice A x.m.pf.ls.length c], .int .u64 (x.now : Int)] Z fun e w' => e = .returned (.int .i64 (cnConP R x.m.cn x.m.ht x.now x.m.pf).1) ∧ At W y l (cnConP R x.m.cn x.m.ht x.now x.m.pf).2 (k + 6) w' ∧ Kept Z w') := Lib.hid fun Z hz A c hv => (cnconP_any (h.up hz) (by omega) x.m.cn (by have := HSZ.out x.m.cn (by simp [MsgV.texts]); omega) x.m.ht x.now hm.lt_ht hlt x.m.pf.n A x.m.pf.ls.length c x.m.pf (fun Y hy => ⟨_, rfl, by rw [← hv]; exact (hm.keptM ((Kept.of_belowX hz).transX (Kept.of_belowX hy))).r_pf, hm.in_pf⟩) fr ((hz.block _ (blk_lt hk)).trans hk)).mono fun e w' ⟨h1, h2, h3⟩ => ⟨h1, h2.more (by omega), h3⟩
  have H9 : Hid (∀ Z, Below w.heap.size w Z → Calls Tryz.prog 84 #[.pointer (some ⟨y.b, 0, none⟩), .string x.m.cn, .string x.m.po, .string x.m.pe, .bool x.m.od, .string x.m.ve] Z fun e w' => (∃ s, e = .returned (.tuple #[.string s, .int .i64 (chBeginP R x.m.cn x.m.po x.m.pe x.m.od x.m.ve).1])) ∧ At W y l (chBeginP R x.m.cn x.m.po x.m.pe x.m.od x.m.ve).2 (k + 6) w' ∧ Kept Z w') := Lib.hid fun Z hz => (chbeginU_any (h.up hz) (by omega) (hT.kept (Kept.of_belowX hz)) x.m.cn x.m.po x.m.pe x.m.od x.m.ve (by have := HSZ.out x.m.cn (by simp [MsgV.texts]); omega) (by have := HSZ.out x.m.po (by simp [MsgV.texts]); omega) (by have := HSZ.out x.m.pe (by simp [MsgV.texts]); omega) (by have := HSZ.out x.m.ve (by simp [MsgV.texts]); omega)).mono fun e w' ⟨h1, h2, h3⟩ => ⟨⟨_, h1⟩, h2.more (by omega), h3⟩
  have H10 : Hid (∀ Z, Below w.heap.size w Z → ∀ (A : Option Addr) (c : Nat), x.m.vpf = .slice A x.m.pf.ls.length c → Calls Tryz.prog 86 #[.pointer (some ⟨y.b, 0, none⟩), .agg #[.int .u64 0, .bool x.m.od, .string x.m.po, .string x.m.pe, .string x.m.cn, .string x.m.ce, .string x.m.ve], .int .u64 (x.m.ht : Int), .agg #[.int .i64 x.m.pf.n, .slice A x.m.pf.ls.length c], .int .u64 (x.now : Int)] Z fun e w' => (∃ s, e = .returned (.tuple #[.string s, .int .i64 (chTryP R ⟨0, x.m.od, x.m.po, x.m.pe, x.m.cn, x.m.ce, x.m.ve⟩ x.m.ht x.now x.m.pf).1])) ∧ At W y l (chTryP R ⟨0, x.m.od, x.m.po, x.m.pe, x.m.cn, x.m.ce, x.m.ve⟩ x.m.ht x.now x.m.pf).2 (k + 6) w' ∧ Kept Z w') := Lib.hid fun Z hz A c hv => (chtry_any (h.up hz) (by omega) (hT.kept (Kept.of_belowX hz)) x.m.od x.m.po x.m.pe x.m.cn x.m.ce x.m.ve (by have := HSZ.out x.m.po (by simp [MsgV.texts]); omega) (by have := HSZ.out x.m.pe (by simp [MsgV.texts]); omega) (by have := HSZ.out x.m.cn (by simp [MsgV.texts]); omega) (by have := HSZ.out x.m.ce (by simp [MsgV.texts]); omega) (by have := HSZ.out x.m.ve (by simp [MsgV.texts]); omega) x.m.ht x.now hm.lt_ht hlt x.m.pf.n A x.m.pf.ls.length c x.m.pf (fun Y hy => ⟨_, rfl, by rw [← hv]; exact (hm.keptM ((Kept.of_belowX hz).transX (Kept.of_belowX hy))).r_pf, hm.in_pf⟩) fr ((hz.block _ (blk_lt hk)).trans hk)).mono fun e w' ⟨h1, h2, h3⟩ => ⟨⟨_, h1⟩, h2.more (by omega), h3⟩
  have H11 : Hid (∀ Z, Below w.heap.size w Z → ∀ (A : Option Addr) (c : Nat), x.m.vpf = .slice A x.m.pf.ls.length c → Calls Tryz.prog 87 #[.pointer (some ⟨y.b, 0, none⟩), .string x.m.ch, .string x.m.ce, .int .u64 (x.m.ht : Int), .agg #[.int .i64 x.m.pf.n, .slice A x.m.pf.ls.length c], .int .u64 (x.now : Int)] Z fun e w' => e = .returned (.int .i64 (chAckP R x.m.ch x.m.ce x.m.ht x.now x.m.pf).1) ∧ At W y l (chAckP R x.m.ch x.m.ce x.m.ht x.now x.m.pf).2 (k + 6) w' ∧ Kept Z w') := Lib.hid fun Z hz A c hv => (chack_any (h.up hz) (by omega) x.m.ch x.m.ce (by have := HSZ.out x.m.ch (by simp [MsgV.texts]); omega) (by have := HSZ.out x.m.ce (by simp [MsgV.texts]); omega) x.m.ht x.now hm.lt_ht hlt x.m.pf.n A x.m.pf.ls.length c x.m.pf (fun Y hy => ⟨_, rfl, by rw [← hv]; exact (hm.keptM ((Kept.of_belowX hz).transX (Kept.of_belowX hy))).r_pf, hm.in_pf⟩) fr ((hz.block _ (blk_lt hk)).trans hk)).mono fun e w' ⟨h1, h2, h3⟩ => ⟨h1, h2.more (by omega), h3⟩
  have H12 : Hid (∀ Z, Below w.heap.size w Z → ∀ (A : Option Addr) (c : Nat), x.m.vpf = .slice A x.m.pf.ls.length c → Calls Tryz.prog 88 #[.pointer (some ⟨y.b, 0, none⟩), .string x.m.ch, .int .u64 (x.m.ht : Int), .agg #[.int .i64 x.m.pf.n, .slice A x.m.pf.ls.length c], .int .u64 (x.now : Int)] Z fun e w' => e = .returned (.int .i64 (chFolP R x.m.ch 2 3 x.m.ht x.now x.m.pf).1) ∧ At W y l (chFolP R x.m.ch 2 3 x.m.ht x.now x.m.pf).2 (k + 6) w' ∧ Kept Z w') := Lib.hid fun Z hz A c hv => (chcon_any (h.up hz) (by omega) x.m.ch (by have := HSZ.out x.m.ch (by simp [MsgV.texts]); omega) x.m.ht x.now hm.lt_ht hlt x.m.pf.n A x.m.pf.ls.length c x.m.pf (fun Y hy => ⟨_, rfl, by rw [← hv]; exact (hm.keptM ((Kept.of_belowX hz).transX (Kept.of_belowX hy))).r_pf, hm.in_pf⟩) fr ((hz.block _ (blk_lt hk)).trans hk)).mono fun e w' ⟨h1, h2, h3⟩ => ⟨h1, h2.more (by omega), h3⟩
  have H13 : Hid (∀ Z, Below w.heap.size w Z → Calls Tryz.prog 85 #[.pointer (some ⟨y.b, 0, none⟩), .string x.m.ch] Z fun e w' => e = .returned (.int .i64 (chCloP R x.m.ch).1) ∧ At W y l (chCloP R x.m.ch).2 (k + 6) w' ∧ Kept Z w') := Lib.hid fun Z hz => (chclo_any (h.up hz) (by omega) x.m.ch (by have := HSZ.out x.m.ch (by simp [MsgV.texts]); omega)).mono fun e w' ⟨h1, h2, h3⟩ => ⟨h1, h2.more (by omega), h3⟩
  have H14 : Hid (∀ Z, Below w.heap.size w Z → ∀ (A : Option Addr) (c : Nat), x.m.vpf = .slice A x.m.pf.ls.length c → Calls Tryz.prog 89 #[.pointer (some ⟨y.b, 0, none⟩), .string x.m.ch, .int .u64 (x.m.ht : Int), .agg #[.int .i64 x.m.pf.n, .slice A x.m.pf.ls.length c], .int .u64 (x.now : Int)] Z fun e w' => e = .returned (.int .i64 (chFolP R x.m.ch 3 4 x.m.ht x.now x.m.pf).1) ∧ At W y l (chFolP R x.m.ch 3 4 x.m.ht x.now x.m.pf).2 (k + 6) w' ∧ Kept Z w') := Lib.hid fun Z hz A c hv => (chclc_any (h.up hz) (by omega) x.m.ch (by have := HSZ.out x.m.ch (by simp [MsgV.texts]); omega) x.m.ht x.now hm.lt_ht hlt x.m.pf.n A x.m.pf.ls.length c x.m.pf (fun Y hy => ⟨_, rfl, by rw [← hv]; exact (hm.keptM ((Kept.of_belowX hz).transX (Kept.of_belowX hy))).r_pf, hm.in_pf⟩) fr ((hz.block _ (blk_lt hk)).trans hk)).mono fun e w' ⟨h1, h2, h3⟩ => ⟨h1, h2.more (by omega), h3⟩
  unfold stepM16 at HU
  obtain ⟨B, hB⟩ : ∃ B : Addr, B = ⟨y.b, 0, none⟩ := ⟨_, rfl⟩
  rw [← hB] at H2 H3 H4 H5 H6 H7 H8 H9 H10 H11 H12 H13 H14 ⊢
  clear hB hlt h hT hk hn hf HSZ
  obtain ⟨x_on, x_self, x_now, x_sg, ⟨m_kd, m_to, m_dn, m_am, m_cl, m_cc, m_cn, m_cd, m_ch, m_ce, m_po, m_pe, m_ve, m_od, ⟨m_h_ch, m_h_ht, m_h_tm, m_h_vr, m_h_vv, m_h_vn, m_h_rt, m_h_va, m_h_nx⟩, ⟨m_o_ch, m_o_ht, m_o_tm, m_o_vr, m_o_vv, m_o_vn, m_o_rt, m_o_va, m_o_nx⟩, m_vs1, m_s1, m_vs2, m_s2, m_vs3, m_s3, m_vt1, m_t1, m_vt2, m_t2, m_ht, m_tm, m_at_, m_per, ⟨m_pk_src, m_pk_dst, m_pk_seq, m_pk_vd, m_pk_da, m_pk_ht, m_pk_tm⟩, m_vak, m_ak, m_vpf, ⟨m_pf_n, m_pf_l⟩, m_nx, ⟨m_pay_d, m_pay_x, m_pay_y, m_pay_z⟩, m_vos, m_os⟩⟩ := x
  dsimp only at hm HU H2 H3 H4 H5 H6 H7 H8 H9 H10 H11 H12 H13 H14 ⊢
  have qm_h_vr : Rd w w.heap.size m_h_vr m_h_rt := hm.r_h.r
  have qm_h_vv : Rd w w.heap.size m_h_vv m_h_va := hm.r_h.v
  have qm_h_vn : Rd w w.heap.size m_h_vn m_h_nx := hm.r_h.n
  have qm_o_vr : Rd w w.heap.size m_o_vr m_o_rt := hm.r_o.r
  have qm_o_vv : Rd w w.heap.size m_o_vv m_o_va := hm.r_o.v
  have qm_o_vn : Rd w w.heap.size m_o_vn m_o_nx := hm.r_o.n
  have qm_vs1 : ValsAt w w.heap.size m_vs1 m_s1 := hm.r_s1
  have qm_vs2 : ValsAt w w.heap.size m_vs2 m_s2 := hm.r_s2
  have qm_vs3 : ValsAt w w.heap.size m_vs3 m_s3 := hm.r_s3
  have qm_vt1 : StrsAt w w.heap.size m_vt1 m_t1 := hm.r_t1
  have qm_vt2 : StrsAt w w.heap.size m_vt2 m_t2 := hm.r_t2
  have qm_pk_vd : Rd w w.heap.size m_pk_vd m_pk_da := hm.r_pk.d
  have qm_vak : Rd w w.heap.size m_vak m_ak := hm.r_ak
  have qm_vpf : LeavesV w w.heap.size m_vpf m_pf_l := hm.r_pf
  have qm_vos : OrdsAt w m_vos m_os := hm.r_os
  obtain ⟨Am_h_vr, Cm_h_vr, rfl⟩ := qm_h_vr.form
  obtain ⟨Am_h_vv, Cm_h_vv, rfl⟩ := qm_h_vv.form
  obtain ⟨Am_h_vn, Cm_h_vn, rfl⟩ := qm_h_vn.form
  obtain ⟨Am_o_vr, Cm_o_vr, rfl⟩ := qm_o_vr.form
  obtain ⟨Am_o_vv, Cm_o_vv, rfl⟩ := qm_o_vv.form
  obtain ⟨Am_o_vn, Cm_o_vn, rfl⟩ := qm_o_vn.form
  obtain ⟨Am_vs1, Cm_vs1, rfl⟩ := qm_vs1.form
  obtain ⟨Am_vs2, Cm_vs2, rfl⟩ := qm_vs2.form
  obtain ⟨Am_vs3, Cm_vs3, rfl⟩ := qm_vs3.form
  obtain ⟨Am_vt1, Cm_vt1, rfl⟩ := qm_vt1.form
  obtain ⟨Am_vt2, Cm_vt2, rfl⟩ := qm_vt2.form
  obtain ⟨Am_pk_vd, Cm_pk_vd, rfl⟩ := qm_pk_vd.form
  obtain ⟨Am_vak, Cm_vak, rfl⟩ := qm_vak.form
  obtain ⟨Am_vpf, Cm_vpf, rfl⟩ := qm_vpf.form
  obtain ⟨Am_vos, Cm_vos, rfl⟩ := qm_vos.form
  clear qm_h_vr qm_h_vv qm_h_vn qm_o_vr qm_o_vv qm_o_vn qm_vs1 qm_vs2 qm_vs3 qm_vt1 qm_vt2 qm_pk_vd qm_vak qm_vpf qm_vos
  clear hm
  unfold StepV.cells
  obtain ⟨ML, hML⟩ : ∃ L : List Value, L = MsgV.cells ⟨m_kd, m_to, m_dn, m_am, m_cl, m_cc, m_cn, m_cd, m_ch, m_ce, m_po, m_pe, m_ve, m_od, ⟨m_h_ch, m_h_ht, m_h_tm, (.slice Am_h_vr m_h_rt.length Cm_h_vr), (.slice Am_h_vv m_h_va.length Cm_h_vv), (.slice Am_h_vn m_h_nx.length Cm_h_vn), m_h_rt, m_h_va, m_h_nx⟩, ⟨m_o_ch, m_o_ht, m_o_tm, (.slice Am_o_vr m_o_rt.length Cm_o_vr), (.slice Am_o_vv m_o_va.length Cm_o_vv), (.slice Am_o_vn m_o_nx.length Cm_o_vn), m_o_rt, m_o_va, m_o_nx⟩, (.slice Am_vs1 m_s1.length Cm_vs1), m_s1, (.slice Am_vs2 m_s2.length Cm_vs2), m_s2, (.slice Am_vs3 m_s3.length Cm_vs3), m_s3, (.slice Am_vt1 m_t1.length Cm_vt1), m_t1, (.slice Am_vt2 m_t2.length Cm_vt2), m_t2, m_ht, m_tm, m_at_, m_per, ⟨m_pk_src, m_pk_dst, m_pk_seq, (.slice Am_pk_vd m_pk_da.length Cm_pk_vd), m_pk_da, m_pk_ht, m_pk_tm⟩, (.slice Am_vak m_ak.length Cm_vak), m_ak, (.slice Am_vpf m_pf_l.length Cm_vpf), ⟨m_pf_n, m_pf_l⟩, m_nx, ⟨m_pay_d, m_pay_x, m_pay_y, m_pay_z⟩, (.slice Am_vos m_os.length Cm_vos), m_os⟩ := ⟨_, rfl⟩
  have HML := Lib.hid hML
  clear hML
  unfold MsgV.cells at HML ⊢
  unfold nwOf nw2Of NwW.val at *
  unfold hdOf at *
  dsimp only at HML HU H2 H3 H4 H5 H6 H7 H8 H9 H10 H11 H12 H13 H14 ⊢
  generalize hCV : createE _ m_per x_now = CV at *
  generalize hCR : createR R _ m_per = CR at *
  clear hCV hCR
  generalize hV3 : updM R m_cl _ x_now = V3 at *
  clear hV3
  obtain ⟨V3a, V3b⟩ := V3
  generalize hV4 : misM R m_cl _ _ x_now = V4 at *
  clear hV4
  obtain ⟨V4a, V4b⟩ := V4
  generalize hV5 : cnBeginP R m_cl m_cc = V5 at *
  clear hV5
  obtain ⟨V5a, V5b⟩ := V5
  generalize hV6 : cnTryP R m_cl m_cc m_cd m_ht x_now _ = V6 at *
  clear hV6
  obtain ⟨V6a, V6b⟩ := V6
  generalize hV7 : cnAckP R m_cn m_cd m_ht x_now _ = V7 at *
  clear hV7
  obtain ⟨V7a, V7b⟩ := V7
  generalize hV8 : cnConP R m_cn m_ht x_now _ = V8 at *
  clear hV8
  obtain ⟨V8a, V8b⟩ := V8
  generalize hV9 : chBeginP R m_cn m_po m_pe m_od m_ve = V9 at *
  clear hV9
  obtain ⟨V9a, V9b⟩ := V9
  generalize hV10 : chTryP R _ m_ht x_now _ = V10 at *
  clear hV10
  obtain ⟨V10a, V10b⟩ := V10
  generalize hV11 : chAckP R m_ch m_ce m_ht x_now _ = V11 at *
  clear hV11
  obtain ⟨V11a, V11b⟩ := V11
  generalize hV12 : chFolP R m_ch 2 3 m_ht x_now _ = V12 at *
  clear hV12
  obtain ⟨V12a, V12b⟩ := V12
  generalize hV13 : chCloP R m_ch = V13 at *
  clear hV13
  obtain ⟨V13a, V13b⟩ := V13
  generalize hV14 : chFolP R m_ch 3 4 m_ht x_now _ = V14 at *
  clear hV14
  obtain ⟨V14a, V14b⟩ := V14
  dsimp only at H2 H3 H4 H5 H6 H7 H8 H9 H10 H11 H12 H13 H14
  have m3 := heap_alloc_new w (.cells ((.int .i64 x_on :: .int .u64 (x_self : Int) :: .int .u64 (x_now : Int) :: .string x_sg :: [.int .i64 m_kd, .string m_to, .string m_dn, .int .u64 (m_am.a : Int), .int .u64 (m_am.b : Int), .int .u64 (m_am.c : Int), .int .u64 (m_am.d : Int), .string m_cl, .string m_cc, .string m_cn, .string m_cd, .string m_ch, .string m_ce, .string m_po, .string m_pe, .string m_ve, .bool m_od, .string m_h_ch, .int .u64 (m_h_ht : Int), .int .u64 (m_h_tm : Int), .slice Am_h_vr m_h_rt.length Cm_h_vr, .slice Am_h_vv m_h_va.length Cm_h_vv, .slice Am_h_vn m_h_nx.length Cm_h_vn, .string m_o_ch, .int .u64 (m_o_ht : Int), .int .u64 (m_o_tm : Int), .slice Am_o_vr m_o_rt.length Cm_o_vr, .slice Am_o_vv m_o_va.length Cm_o_vv, .slice Am_o_vn m_o_nx.length Cm_o_vn, .slice Am_vs1 m_s1.length Cm_vs1, .slice Am_vs2 m_s2.length Cm_vs2, .slice Am_vs3 m_s3.length Cm_vs3, .slice Am_vt1 m_t1.length Cm_vt1, .slice Am_vt2 m_t2.length Cm_vt2, .int .u64 (m_ht : Int), .int .u64 (m_tm : Int), .int .u64 (m_at_ : Int), .int .u64 (m_per : Int), .string m_pk_src, .string m_pk_dst, .int .u64 (m_pk_seq : Int), .slice Am_pk_vd m_pk_da.length Cm_pk_vd, .int .u64 (m_pk_ht : Int), .int .u64 (m_pk_tm : Int), .slice Am_vak m_ak.length Cm_vak, .int .i64 m_pf_n, .slice Am_vpf m_pf_l.length Cm_vpf, .int .u64 (m_nx : Int), .string m_pay_d, .int .u64 (m_pay_x.a : Int), .int .u64 (m_pay_x.b : Int), .int .u64 (m_pay_x.c : Int), .int .u64 (m_pay_x.d : Int), .int .u64 (m_pay_y.a : Int), .int .u64 (m_pay_y.b : Int), .int .u64 (m_pay_y.c : Int), .int .u64 (m_pay_y.d : Int), .int .u64 (m_pay_z.a : Int), .int .u64 (m_pay_z.b : Int), .int .u64 (m_pay_z.c : Int), .int .u64 (m_pay_z.d : Int), .slice Am_vos m_os.length Cm_vos]).toArray) 48)
  have b3 : Below w.heap.size w (w.alloc (.cells ((.int .i64 x_on :: .int .u64 (x_self : Int) :: .int .u64 (x_now : Int) :: .string x_sg :: [.int .i64 m_kd, .string m_to, .string m_dn, .int .u64 (m_am.a : Int), .int .u64 (m_am.b : Int), .int .u64 (m_am.c : Int), .int .u64 (m_am.d : Int), .string m_cl, .string m_cc, .string m_cn, .string m_cd, .string m_ch, .string m_ce, .string m_po, .string m_pe, .string m_ve, .bool m_od, .string m_h_ch, .int .u64 (m_h_ht : Int), .int .u64 (m_h_tm : Int), .slice Am_h_vr m_h_rt.length Cm_h_vr, .slice Am_h_vv m_h_va.length Cm_h_vv, .slice Am_h_vn m_h_nx.length Cm_h_vn, .string m_o_ch, .int .u64 (m_o_ht : Int), .int .u64 (m_o_tm : Int), .slice Am_o_vr m_o_rt.length Cm_o_vr, .slice Am_o_vv m_o_va.length Cm_o_vv, .slice Am_o_vn m_o_nx.length Cm_o_vn, .slice Am_vs1 m_s1.length Cm_vs1, .slice Am_vs2 m_s2.length Cm_vs2, .slice Am_vs3 m_s3.length Cm_vs3, .slice Am_vt1 m_t1.length Cm_vt1, .slice Am_vt2 m_t2.length Cm_vt2, .int .u64 (m_ht : Int), .int .u64 (m_tm : Int), .int .u64 (m_at_ : Int), .int .u64 (m_per : Int), .string m_pk_src, .string m_pk_dst, .int .u64 (m_pk_seq : Int), .slice Am_pk_vd m_pk_da.length Cm_pk_vd, .int .u64 (m_pk_ht : Int), .int .u64 (m_pk_tm : Int), .slice Am_vak m_ak.length Cm_vak, .int .i64 m_pf_n, .slice Am_vpf m_pf_l.length Cm_vpf, .int .u64 (m_nx : Int), .string m_pay_d, .int .u64 (m_pay_x.a : Int), .int .u64 (m_pay_x.b : Int), .int .u64 (m_pay_x.c : Int), .int .u64 (m_pay_x.d : Int), .int .u64 (m_pay_y.a : Int), .int .u64 (m_pay_y.b : Int), .int .u64 (m_pay_y.c : Int), .int .u64 (m_pay_y.d : Int), .int .u64 (m_pay_z.a : Int), .int .u64 (m_pay_z.b : Int), .int .u64 (m_pay_z.c : Int), .int .u64 (m_pay_z.d : Int), .slice Am_vos m_os.length Cm_vos]).toArray) 48)) := (Below.refl _ _).alloc (Nat.le_refl _) _
  have m5 := heap_alloc_new (w.alloc (.cells ((.int .i64 x_on :: .int .u64 (x_self : Int) :: .int .u64 (x_now : Int) :: .string x_sg :: [.int .i64 m_kd, .string m_to, .string m_dn, .int .u64 (m_am.a : Int), .int .u64 (m_am.b : Int), .int .u64 (m_am.c : Int), .int .u64 (m_am.d : Int), .string m_cl, .string m_cc, .string m_cn, .string m_cd, .string m_ch, .string m_ce, .string m_po, .string m_pe, .string m_ve, .bool m_od, .string m_h_ch, .int .u64 (m_h_ht : Int), .int .u64 (m_h_tm : Int), .slice Am_h_vr m_h_rt.length Cm_h_vr, .slice Am_h_vv m_h_va.length Cm_h_vv, .slice Am_h_vn m_h_nx.length Cm_h_vn, .string m_o_ch, .int .u64 (m_o_ht : Int), .int .u64 (m_o_tm : Int), .slice Am_o_vr m_o_rt.length Cm_o_vr, .slice Am_o_vv m_o_va.length Cm_o_vv, .slice Am_o_vn m_o_nx.length Cm_o_vn, .slice Am_vs1 m_s1.length Cm_vs1, .slice Am_vs2 m_s2.length Cm_vs2, .slice Am_vs3 m_s3.length Cm_vs3, .slice Am_vt1 m_t1.length Cm_vt1, .slice Am_vt2 m_t2.length Cm_vt2, .int .u64 (m_ht : Int), .int .u64 (m_tm : Int), .int .u64 (m_at_ : Int), .int .u64 (m_per : Int), .string m_pk_src, .string m_pk_dst, .int .u64 (m_pk_seq : Int), .slice Am_pk_vd m_pk_da.length Cm_pk_vd, .int .u64 (m_pk_ht : Int), .int .u64 (m_pk_tm : Int), .slice Am_vak m_ak.length Cm_vak, .int .i64 m_pf_n, .slice Am_vpf m_pf_l.length Cm_vpf, .int .u64 (m_nx : Int), .string m_pay_d, .int .u64 (m_pay_x.a : Int), .int .u64 (m_pay_x.b : Int), .int .u64 (m_pay_x.c : Int), .int .u64 (m_pay_x.d : Int), .int .u64 (m_pay_y.a : Int), .int .u64 (m_pay_y.b : Int), .int .u64 (m_pay_y.c : Int), .int .u64 (m_pay_y.d : Int), .int .u64 (m_pay_z.a : Int), .int .u64 (m_pay_z.b : Int), .int .u64 (m_pay_z.c : Int), .int .u64 (m_pay_z.d : Int), .slice Am_vos m_os.length Cm_vos]).toArray) 48)) (.cells #[.int .i64 0, .string ⟨#[]⟩, .string ⟨#[]⟩, .int .u64 0, .int .u64 0, .int .u64 0, .int .u64 0, .string ⟨#[]⟩, .string ⟨#[]⟩, .string ⟨#[]⟩, .string ⟨#[]⟩, .string ⟨#[]⟩, .string ⟨#[]⟩, .string ⟨#[]⟩, .string ⟨#[]⟩, .string ⟨#[]⟩, .bool false, .string ⟨#[]⟩, .int .u64 0, .int .u64 0, .slice none 0 0, .slice none 0 0, .slice none 0 0, .string ⟨#[]⟩, .int .u64 0, .int .u64 0, .slice none 0 0, .slice none 0 0, .slice none 0 0, .slice none 0 0, .slice none 0 0, .slice none 0 0, .slice none 0 0, .slice none 0 0, .int .u64 0, .int .u64 0, .int .u64 0, .int .u64 0, .string ⟨#[]⟩, .string ⟨#[]⟩, .int .u64 0, .slice none 0 0, .int .u64 0, .int .u64 0, .slice none 0 0, .int .i64 0, .slice none 0 0, .int .u64 0, .string ⟨#[]⟩, .int .u64 0, .int .u64 0, .int .u64 0, .int .u64 0, .int .u64 0, .int .u64 0, .int .u64 0, .int .u64 0, .int .u64 0, .int .u64 0, .int .u64 0, .int .u64 0, .slice none 0 0] 46)
  have b5 := b3.alloc b3.size (.cells #[.int .i64 0, .string ⟨#[]⟩, .string ⟨#[]⟩, .int .u64 0, .int .u64 0, .int .u64 0, .int .u64 0, .string ⟨#[]⟩, .string ⟨#[]⟩, .string ⟨#[]⟩, .string ⟨#[]⟩, .string ⟨#[]⟩, .string ⟨#[]⟩, .string ⟨#[]⟩, .string ⟨#[]⟩, .string ⟨#[]⟩, .bool false, .string ⟨#[]⟩, .int .u64 0, .int .u64 0, .slice none 0 0, .slice none 0 0, .slice none 0 0, .string ⟨#[]⟩, .int .u64 0, .int .u64 0, .slice none 0 0, .slice none 0 0, .slice none 0 0, .slice none 0 0, .slice none 0 0, .slice none 0 0, .slice none 0 0, .slice none 0 0, .int .u64 0, .int .u64 0, .int .u64 0, .int .u64 0, .string ⟨#[]⟩, .string ⟨#[]⟩, .int .u64 0, .slice none 0 0, .int .u64 0, .int .u64 0, .slice none 0 0, .int .i64 0, .slice none 0 0, .int .u64 0, .string ⟨#[]⟩, .int .u64 0, .int .u64 0, .int .u64 0, .int .u64 0, .int .u64 0, .int .u64 0, .int .u64 0, .int .u64 0, .int .u64 0, .int .u64 0, .int .u64 0, .int .u64 0, .slice none 0 0] 46)
  have hrg3 : (w.alloc (.cells ((.int .i64 x_on :: .int .u64 (x_self : Int) :: .int .u64 (x_now : Int) :: .string x_sg :: [.int .i64 m_kd, .string m_to, .string m_dn, .int .u64 (m_am.a : Int), .int .u64 (m_am.b : Int), .int .u64 (m_am.c : Int), .int .u64 (m_am.d : Int), .string m_cl, .string m_cc, .string m_cn, .string m_cd, .string m_ch, .string m_ce, .string m_po, .string m_pe, .string m_ve, .bool m_od, .string m_h_ch, .int .u64 (m_h_ht : Int), .int .u64 (m_h_tm : Int), .slice Am_h_vr m_h_rt.length Cm_h_vr, .slice Am_h_vv m_h_va.length Cm_h_vv, .slice Am_h_vn m_h_nx.length Cm_h_vn, .string m_o_ch, .int .u64 (m_o_ht : Int), .int .u64 (m_o_tm : Int), .slice Am_o_vr m_o_rt.length Cm_o_vr, .slice Am_o_vv m_o_va.length Cm_o_vv, .slice Am_o_vn m_o_nx.length Cm_o_vn, .slice Am_vs1 m_s1.length Cm_vs1, .slice Am_vs2 m_s2.length Cm_vs2, .slice Am_vs3 m_s3.length Cm_vs3, .slice Am_vt1 m_t1.length Cm_vt1, .slice Am_vt2 m_t2.length Cm_vt2, .int .u64 (m_ht : Int), .int .u64 (m_tm : Int), .int .u64 (m_at_ : Int), .int .u64 (m_per : Int), .string m_pk_src, .string m_pk_dst, .int .u64 (m_pk_seq : Int), .slice Am_pk_vd m_pk_da.length Cm_pk_vd, .int .u64 (m_pk_ht : Int), .int .u64 (m_pk_tm : Int), .slice Am_vak m_ak.length Cm_vak, .int .i64 m_pf_n, .slice Am_vpf m_pf_l.length Cm_vpf, .int .u64 (m_nx : Int), .string m_pay_d, .int .u64 (m_pay_x.a : Int), .int .u64 (m_pay_x.b : Int), .int .u64 (m_pay_x.c : Int), .int .u64 (m_pay_x.d : Int), .int .u64 (m_pay_y.a : Int), .int .u64 (m_pay_y.b : Int), .int .u64 (m_pay_y.c : Int), .int .u64 (m_pay_y.d : Int), .int .u64 (m_pay_z.a : Int), .int .u64 (m_pay_z.b : Int), .int .u64 (m_pay_z.c : Int), .int .u64 (m_pay_z.d : Int), .slice Am_vos m_os.length Cm_vos]).toArray) 48)).rangeAt w.heap.size 4 ML := fun j v hv => by
    rw [blk_cell m3, List.getElem?_toArray, Nat.add_comm]
    rw [HML.out] at hv
    exact hv
  replace m3 := (Below.heap_alloc (w.alloc (.cells ((.int .i64 x_on :: .int .u64 (x_self : Int) :: .int .u64 (x_now : Int) :: .string x_sg :: [.int .i64 m_kd, .string m_to, .string m_dn, .int .u64 (m_am.a : Int), .int .u64 (m_am.b : Int), .int .u64 (m_am.c : Int), .int .u64 (m_am.d : Int), .string m_cl, .string m_cc, .string m_cn, .string m_cd, .string m_ch, .string m_ce, .string m_po, .string m_pe, .string m_ve, .bool m_od, .string m_h_ch, .int .u64 (m_h_ht : Int), .int .u64 (m_h_tm : Int), .slice Am_h_vr m_h_rt.length Cm_h_vr, .slice Am_h_vv m_h_va.length Cm_h_vv, .slice Am_h_vn m_h_nx.length Cm_h_vn, .string m_o_ch, .int .u64 (m_o_ht : Int), .int .u64 (m_o_tm : Int), .slice Am_o_vr m_o_rt.length Cm_o_vr, .slice Am_o_vv m_o_va.length Cm_o_vv, .slice Am_o_vn m_o_nx.length Cm_o_vn, .slice Am_vs1 m_s1.length Cm_vs1, .slice Am_vs2 m_s2.length Cm_vs2, .slice Am_vs3 m_s3.length Cm_vs3, .slice Am_vt1 m_t1.length Cm_vt1, .slice Am_vt2 m_t2.length Cm_vt2, .int .u64 (m_ht : Int), .int .u64 (m_tm : Int), .int .u64 (m_at_ : Int), .int .u64 (m_per : Int), .string m_pk_src, .string m_pk_dst, .int .u64 (m_pk_seq : Int), .slice Am_pk_vd m_pk_da.length Cm_pk_vd, .int .u64 (m_pk_ht : Int), .int .u64 (m_pk_tm : Int), .slice Am_vak m_ak.length Cm_vak, .int .i64 m_pf_n, .slice Am_vpf m_pf_l.length Cm_vpf, .int .u64 (m_nx : Int), .string m_pay_d, .int .u64 (m_pay_x.a : Int), .int .u64 (m_pay_x.b : Int), .int .u64 (m_pay_x.c : Int), .int .u64 (m_pay_x.d : Int), .int .u64 (m_pay_y.a : Int), .int .u64 (m_pay_y.b : Int), .int .u64 (m_pay_y.c : Int), .int .u64 (m_pay_y.d : Int), .int .u64 (m_pay_z.a : Int), .int .u64 (m_pay_z.b : Int), .int .u64 (m_pay_z.c : Int), .int .u64 (m_pay_z.d : Int), .slice Am_vos m_os.length Cm_vos]).toArray) 48)) (.cells #[.int .i64 0, .string ⟨#[]⟩, .string ⟨#[]⟩, .int .u64 0, .int .u64 0, .int .u64 0, .int .u64 0, .string ⟨#[]⟩, .string ⟨#[]⟩, .string ⟨#[]⟩, .string ⟨#[]⟩, .string ⟨#[]⟩, .string ⟨#[]⟩, .string ⟨#[]⟩, .string ⟨#[]⟩, .string ⟨#[]⟩, .bool false, .string ⟨#[]⟩, .int .u64 0, .int .u64 0, .slice none 0 0, .slice none 0 0, .slice none 0 0, .string ⟨#[]⟩, .int .u64 0, .int .u64 0, .slice none 0 0, .slice none 0 0, .slice none 0 0, .slice none 0 0, .slice none 0 0, .slice none 0 0, .slice none 0 0, .slice none 0 0, .int .u64 0, .int .u64 0, .int .u64 0, .int .u64 0, .string ⟨#[]⟩, .string ⟨#[]⟩, .int .u64 0, .slice none 0 0, .int .u64 0, .int .u64 0, .slice none 0 0, .int .i64 0, .slice none 0 0, .int .u64 0, .string ⟨#[]⟩, .int .u64 0, .int .u64 0, .int .u64 0, .int .u64 0, .int .u64 0, .int .u64 0, .int .u64 0, .int .u64 0, .int .u64 0, .int .u64 0, .int .u64 0, .int .u64 0, .slice none 0 0] 46) _ (blk_lt m3)).trans m3
  rw [show (w.alloc (.cells ((.int .i64 x_on :: .int .u64 (x_self : Int) :: .int .u64 (x_now : Int) :: .string x_sg :: [.int .i64 m_kd, .string m_to, .string m_dn, .int .u64 (m_am.a : Int), .int .u64 (m_am.b : Int), .int .u64 (m_am.c : Int), .int .u64 (m_am.d : Int), .string m_cl, .string m_cc, .string m_cn, .string m_cd, .string m_ch, .string m_ce, .string m_po, .string m_pe, .string m_ve, .bool m_od, .string m_h_ch, .int .u64 (m_h_ht : Int), .int .u64 (m_h_tm : Int), .slice Am_h_vr m_h_rt.length Cm_h_vr, .slice Am_h_vv m_h_va.length Cm_h_vv, .slice Am_h_vn m_h_nx.length Cm_h_vn, .string m_o_ch, .int .u64 (m_o_ht : Int), .int .u64 (m_o_tm : Int), .slice Am_o_vr m_o_rt.length Cm_o_vr, .slice Am_o_vv m_o_va.length Cm_o_vv, .slice Am_o_vn m_o_nx.length Cm_o_vn, .slice Am_vs1 m_s1.length Cm_vs1, .slice Am_vs2 m_s2.length Cm_vs2, .slice Am_vs3 m_s3.length Cm_vs3, .slice Am_vt1 m_t1.length Cm_vt1, .slice Am_vt2 m_t2.length Cm_vt2, .int .u64 (m_ht : Int), .int .u64 (m_tm : Int), .int .u64 (m_at_ : Int), .int .u64 (m_per : Int), .string m_pk_src, .string m_pk_dst, .int .u64 (m_pk_seq : Int), .slice Am_pk_vd m_pk_da.length Cm_pk_vd, .int .u64 (m_pk_ht : Int), .int .u64 (m_pk_tm : Int), .slice Am_vak m_ak.length Cm_vak, .int .i64 m_pf_n, .slice Am_vpf m_pf_l.length Cm_vpf, .int .u64 (m_nx : Int), .string m_pay_d, .int .u64 (m_pay_x.a : Int), .int .u64 (m_pay_x.b : Int), .int .u64 (m_pay_x.c : Int), .int .u64 (m_pay_x.d : Int), .int .u64 (m_pay_y.a : Int), .int .u64 (m_pay_y.b : Int), .int .u64 (m_pay_y.c : Int), .int .u64 (m_pay_y.d : Int), .int .u64 (m_pay_z.a : Int), .int .u64 (m_pay_z.b : Int), .int .u64 (m_pay_z.c : Int), .int .u64 (m_pay_z.d : Int), .slice Am_vos m_os.length Cm_vos]).toArray) 48)).heap.size = w.heap.size + 1 by simp] at m5
  have hl62 : ML.length = 62 := by rw [HML.out]; rfl
  have hth : ((w.alloc (.cells ((.int .i64 x_on :: .int .u64 (x_self : Int) :: .int .u64 (x_now : Int) :: .string x_sg :: [.int .i64 m_kd, .string m_to, .string m_dn, .int .u64 (m_am.a : Int), .int .u64 (m_am.b : Int), .int .u64 (m_am.c : Int), .int .u64 (m_am.d : Int), .string m_cl, .string m_cc, .string m_cn, .string m_cd, .string m_ch, .string m_ce, .string m_po, .string m_pe, .string m_ve, .bool m_od, .string m_h_ch, .int .u64 (m_h_ht : Int), .int .u64 (m_h_tm : Int), .slice Am_h_vr m_h_rt.length Cm_h_vr, .slice Am_h_vv m_h_va.length Cm_h_vv, .slice Am_h_vn m_h_nx.length Cm_h_vn, .string m_o_ch, .int .u64 (m_o_ht : Int), .int .u64 (m_o_tm : Int), .slice Am_o_vr m_o_rt.length Cm_o_vr, .slice Am_o_vv m_o_va.length Cm_o_vv, .slice Am_o_vn m_o_nx.length Cm_o_vn, .slice Am_vs1 m_s1.length Cm_vs1, .slice Am_vs2 m_s2.length Cm_vs2, .slice Am_vs3 m_s3.length Cm_vs3, .slice Am_vt1 m_t1.length Cm_vt1, .slice Am_vt2 m_t2.length Cm_vt2, .int .u64 (m_ht : Int), .int .u64 (m_tm : Int), .int .u64 (m_at_ : Int), .int .u64 (m_per : Int), .string m_pk_src, .string m_pk_dst, .int .u64 (m_pk_seq : Int), .slice Am_pk_vd m_pk_da.length Cm_pk_vd, .int .u64 (m_pk_ht : Int), .int .u64 (m_pk_tm : Int), .slice Am_vak m_ak.length Cm_vak, .int .i64 m_pf_n, .slice Am_vpf m_pf_l.length Cm_vpf, .int .u64 (m_nx : Int), .string m_pay_d, .int .u64 (m_pay_x.a : Int), .int .u64 (m_pay_x.b : Int), .int .u64 (m_pay_x.c : Int), .int .u64 (m_pay_x.d : Int), .int .u64 (m_pay_y.a : Int), .int .u64 (m_pay_y.b : Int), .int .u64 (m_pay_y.c : Int), .int .u64 (m_pay_y.d : Int), .int .u64 (m_pay_z.a : Int), .int .u64 (m_pay_z.b : Int), .int .u64 (m_pay_z.c : Int), .int .u64 (m_pay_z.d : Int), .slice Am_vos m_os.length Cm_vos]).toArray) 48)).alloc (.cells #[.int .i64 0, .string ⟨#[]⟩, .string ⟨#[]⟩, .int .u64 0, .int .u64 0, .int .u64 0, .int .u64 0, .string ⟨#[]⟩, .string ⟨#[]⟩, .string ⟨#[]⟩, .string ⟨#[]⟩, .string ⟨#[]⟩, .string ⟨#[]⟩, .string ⟨#[]⟩, .string ⟨#[]⟩, .string ⟨#[]⟩, .bool false, .string ⟨#[]⟩, .int .u64 0, .int .u64 0, .slice none 0 0, .slice none 0 0, .slice none 0 0, .string ⟨#[]⟩, .int .u64 0, .int .u64 0, .slice none 0 0, .slice none 0 0, .slice none 0 0, .slice none 0 0, .slice none 0 0, .slice none 0 0, .slice none 0 0, .slice none 0 0, .int .u64 0, .int .u64 0, .int .u64 0, .int .u64 0, .string ⟨#[]⟩, .string ⟨#[]⟩, .int .u64 0, .slice none 0 0, .int .u64 0, .int .u64 0, .slice none 0 0, .int .i64 0, .slice none 0 0, .int .u64 0, .string ⟨#[]⟩, .int .u64 0, .int .u64 0, .int .u64 0, .int .u64 0, .int .u64 0, .int .u64 0, .int .u64 0, .int .u64 0, .int .u64 0, .int .u64 0, .int .u64 0, .int .u64 0, .slice none 0 0] 46)).there (w.heap.size + 1) 0 ML.toArray.size := fun q hq => by
    have h62 : q < 62 := by simpa [hl62] using hq
    rw [Nat.zero_add]
    refine ⟨?_, blk_free m5 q⟩
    rw [blk_cell m5 q]
    simpa using h62
  have hone : ML.toArray.all (·.oneCell') = true := by rw [HML.out]; simp [Value.oneCell']
  have hrg5 := World.rangeAt_setCells_same ((w.alloc (.cells ((.int .i64 x_on :: .int .u64 (x_self : Int) :: .int .u64 (x_now : Int) :: .string x_sg :: [.int .i64 m_kd, .string m_to, .string m_dn, .int .u64 (m_am.a : Int), .int .u64 (m_am.b : Int), .int .u64 (m_am.c : Int), .int .u64 (m_am.d : Int), .string m_cl, .string m_cc, .string m_cn, .string m_cd, .string m_ch, .string m_ce, .string m_po, .string m_pe, .string m_ve, .bool m_od, .string m_h_ch, .int .u64 (m_h_ht : Int), .int .u64 (m_h_tm : Int), .slice Am_h_vr m_h_rt.length Cm_h_vr, .slice Am_h_vv m_h_va.length Cm_h_vv, .slice Am_h_vn m_h_nx.length Cm_h_vn, .string m_o_ch, .int .u64 (m_o_ht : Int), .int .u64 (m_o_tm : Int), .slice Am_o_vr m_o_rt.length Cm_o_vr, .slice Am_o_vv m_o_va.length Cm_o_vv, .slice Am_o_vn m_o_nx.length Cm_o_vn, .slice Am_vs1 m_s1.length Cm_vs1, .slice Am_vs2 m_s2.length Cm_vs2, .slice Am_vs3 m_s3.length Cm_vs3, .slice Am_vt1 m_t1.length Cm_vt1, .slice Am_vt2 m_t2.length Cm_vt2, .int .u64 (m_ht : Int), .int .u64 (m_tm : Int), .int .u64 (m_at_ : Int), .int .u64 (m_per : Int), .string m_pk_src, .string m_pk_dst, .int .u64 (m_pk_seq : Int), .slice Am_pk_vd m_pk_da.length Cm_pk_vd, .int .u64 (m_pk_ht : Int), .int .u64 (m_pk_tm : Int), .slice Am_vak m_ak.length Cm_vak, .int .i64 m_pf_n, .slice Am_vpf m_pf_l.length Cm_vpf, .int .u64 (m_nx : Int), .string m_pay_d, .int .u64 (m_pay_x.a : Int), .int .u64 (m_pay_x.b : Int), .int .u64 (m_pay_x.c : Int), .int .u64 (m_pay_x.d : Int), .int .u64 (m_pay_y.a : Int), .int .u64 (m_pay_y.b : Int), .int .u64 (m_pay_y.c : Int), .int .u64 (m_pay_y.d : Int), .int .u64 (m_pay_z.a : Int), .int .u64 (m_pay_z.b : Int), .int .u64 (m_pay_z.c : Int), .int .u64 (m_pay_z.d : Int), .slice Am_vos m_os.length Cm_vos]).toArray) 48)).alloc (.cells #[.int .i64 0, .string ⟨#[]⟩, .string ⟨#[]⟩, .int .u64 0, .int .u64 0, .int .u64 0, .int .u64 0, .string ⟨#[]⟩, .string ⟨#[]⟩, .string ⟨#[]⟩, .string ⟨#[]⟩, .string ⟨#[]⟩, .string ⟨#[]⟩, .string ⟨#[]⟩, .string ⟨#[]⟩, .string ⟨#[]⟩, .bool false, .string ⟨#[]⟩, .int .u64 0, .int .u64 0, .slice none 0 0, .slice none 0 0, .slice none 0 0, .string ⟨#[]⟩, .int .u64 0, .int .u64 0, .slice none 0 0, .slice none 0 0, .slice none 0 0, .slice none 0 0, .slice none 0 0, .slice none 0 0, .slice none 0 0, .slice none 0 0, .int .u64 0, .int .u64 0, .int .u64 0, .int .u64 0, .string ⟨#[]⟩, .string ⟨#[]⟩, .int .u64 0, .slice none 0 0, .int .u64 0, .int .u64 0, .slice none 0 0, .int .i64 0, .slice none 0 0, .int .u64 0, .string ⟨#[]⟩, .int .u64 0, .int .u64 0, .int .u64 0, .int .u64 0, .int .u64 0, .int .u64 0, .int .u64 0, .int .u64 0, .int .u64 0, .int .u64 0, .int .u64 0, .int .u64 0, .slice none 0 0] 46)) (w.heap.size + 1) 0 ML (by simpa using hth)
  have b6 := below_setCellsT b5 (show w.heap.size ≤ w.heap.size + 1 by omega) ML 0
  have b7 := below_setCellsT (Below.refl (w.heap.size + 1) ((w.alloc (.cells ((.int .i64 x_on :: .int .u64 (x_self : Int) :: .int .u64 (x_now : Int) :: .string x_sg :: [.int .i64 m_kd, .string m_to, .string m_dn, .int .u64 (m_am.a : Int), .int .u64 (m_am.b : Int), .int .u64 (m_am.c : Int), .int .u64 (m_am.d : Int), .string m_cl, .string m_cc, .string m_cn, .string m_cd, .string m_ch, .string m_ce, .string m_po, .string m_pe, .string m_ve, .bool m_od, .string m_h_ch, .int .u64 (m_h_ht : Int), .int .u64 (m_h_tm : Int), .slice Am_h_vr m_h_rt.length Cm_h_vr, .slice Am_h_vv m_h_va.length Cm_h_vv, .slice Am_h_vn m_h_nx.length Cm_h_vn, .string m_o_ch, .int .u64 (m_o_ht : Int), .int .u64 (m_o_tm : Int), .slice Am_o_vr m_o_rt.length Cm_o_vr, .slice Am_o_vv m_o_va.length Cm_o_vv, .slice Am_o_vn m_o_nx.length Cm_o_vn, .slice Am_vs1 m_s1.length Cm_vs1, .slice Am_vs2 m_s2.length Cm_vs2, .slice Am_vs3 m_s3.length Cm_vs3, .slice Am_vt1 m_t1.length Cm_vt1, .slice Am_vt2 m_t2.length Cm_vt2, .int .u64 (m_ht : Int), .int .u64 (m_tm : Int), .int .u64 (m_at_ : Int), .int .u64 (m_per : Int), .string m_pk_src, .string m_pk_dst, .int .u64 (m_pk_seq : Int), .slice Am_pk_vd m_pk_da.length Cm_pk_vd, .int .u64 (m_pk_ht : Int), .int .u64 (m_pk_tm : Int), .slice Am_vak m_ak.length Cm_vak, .int .i64 m_pf_n, .slice Am_vpf m_pf_l.length Cm_vpf, .int .u64 (m_nx : Int), .string m_pay_d, .int .u64 (m_pay_x.a : Int), .int .u64 (m_pay_x.b : Int), .int .u64 (m_pay_x.c : Int), .int .u64 (m_pay_x.d : Int), .int .u64 (m_pay_y.a : Int), .int .u64 (m_pay_y.b : Int), .int .u64 (m_pay_y.c : Int), .int .u64 (m_pay_y.d : Int), .int .u64 (m_pay_z.a : Int), .int .u64 (m_pay_z.b : Int), .int .u64 (m_pay_z.c : Int), .int .u64 (m_pay_z.d : Int), .slice Am_vos m_os.length Cm_vos]).toArray) 48)).alloc (.cells #[.int .i64 0, .string ⟨#[]⟩, .string ⟨#[]⟩, .int .u64 0, .int .u64 0, .int .u64 0, .int .u64 0, .string ⟨#[]⟩, .string ⟨#[]⟩, .string ⟨#[]⟩, .string ⟨#[]⟩, .string ⟨#[]⟩, .string ⟨#[]⟩, .string ⟨#[]⟩, .string ⟨#[]⟩, .string ⟨#[]⟩, .bool false, .string ⟨#[]⟩, .int .u64 0, .int .u64 0, .slice none 0 0, .slice none 0 0, .slice none 0 0, .string ⟨#[]⟩, .int .u64 0, .int .u64 0, .slice none 0 0, .slice none 0 0, .slice none 0 0, .slice none 0 0, .slice none 0 0, .slice none 0 0, .slice none 0 0, .slice none 0 0, .int .u64 0, .int .u64 0, .int .u64 0, .int .u64 0, .string ⟨#[]⟩, .string ⟨#[]⟩, .int .u64 0, .slice none 0 0, .int .u64 0, .int .u64 0, .slice none 0 0, .int .i64 0, .slice none 0 0, .int .u64 0, .string ⟨#[]⟩, .int .u64 0, .int .u64 0, .int .u64 0, .int .u64 0, .int .u64 0, .int .u64 0, .int .u64 0, .int .u64 0, .int .u64 0, .int .u64 0, .int .u64 0, .int .u64 0, .slice none 0 0] 46))) (Nat.le_refl _) ML 0
  have m6 := (b7.block _ (Nat.lt_succ_self _)).trans m3
  have HM := Lib.hid (And.intro m6 (And.intro hrg5 b6))
  have HRG3 := Lib.hid hrg3
  have HTH := Lib.hid hth
  have HONE := Lib.hid hone
  have HINF : Hid ((Tryz.prog.info? 46).map (·.size) = some ML.length) := Lib.hid (by rw [HML.out]; kernel_rfl)
  clear m3 m5 b3 b5 hrg3 hl62 hth hone hrg5 b6 b7 m6
  by_cases k2 : m_kd = 2
  · have HU2 := Lib.hid (Prod.mk.inj (HU.out.trans (if_pos k2)))
    subst k2
    clear HU H3 H4 H5 H6 H7 H8 H9 H10 H11 H12 H13 H14 HUP
    obtain ⟨m3, hrg, b5⟩ := HM.out
    have ckd := range_cellT hrg 0 (.int .i64 2) (by rw [HML.out]; rfl)
    have c17 := range_cellT hrg 17 (.string m_h_ch) (by rw [HML.out]; rfl)
    have c18 := range_cellT hrg 18 (.int .u64 (m_h_ht : Int)) (by rw [HML.out]; rfl)
    have c19 := range_cellT hrg 19 (.int .u64 (m_h_tm : Int)) (by rw [HML.out]; rfl)
    have c20 := range_cellT hrg 20 (.slice Am_h_vr m_h_rt.length Cm_h_vr) (by rw [HML.out]; rfl)
    have c21 := range_cellT hrg 21 (.slice Am_h_vv m_h_va.length Cm_h_vv) (by rw [HML.out]; rfl)
    have c22 := range_cellT hrg 22 (.slice Am_h_vn m_h_nx.length Cm_h_vn) (by rw [HML.out]; rfl)
    have c37 := range_cellT hrg 37 (.int .u64 (m_per : Int)) (by rw [HML.out]; rfl)
    have cnw := blk_cell m3 2
    clear m3 hrg b5
    go_enter Tryz.func39, Tryz.ntmps39
    go_wp2_with (first
      | (with_reducible refine at_load 46 ?_; refine wpList_load_mid rfl 46 (.tmp 16) rfl w.heap.size 4 rfl ML _ HRG3.out Tryz.underlying46 rfl HINF.out ?_)
      | (with_reducible refine at_store 46 ?_; refine wpList_store_mid rfl 46 (.tmp 5) (.tmp 17) rfl (w.heap.size + 1) 0 ML.toArray rfl rfl HTH.out (by have := HINF.out; simpa using this) HONE.out ?_))
    try simp only [List.toList_toArray]
    have b5 := HM.out.2.2
    clear ckd c17 c18 c19 c20 c21 c22 c37 cnw
    generalize (((w.alloc (.cells ((.int .i64 x_on :: .int .u64 (x_self : Int) :: .int .u64 (x_now : Int) :: .string x_sg :: [.int .i64 2, .string m_to, .string m_dn, .int .u64 (m_am.a : Int), .int .u64 (m_am.b : Int), .int .u64 (m_am.c : Int), .int .u64 (m_am.d : Int), .string m_cl, .string m_cc, .string m_cn, .string m_cd, .string m_ch, .string m_ce, .string m_po, .string m_pe, .string m_ve, .bool m_od, .string m_h_ch, .int .u64 (m_h_ht : Int), .int .u64 (m_h_tm : Int), .slice Am_h_vr m_h_rt.length Cm_h_vr, .slice Am_h_vv m_h_va.length Cm_h_vv, .slice Am_h_vn m_h_nx.length Cm_h_vn, .string m_o_ch, .int .u64 (m_o_ht : Int), .int .u64 (m_o_tm : Int), .slice Am_o_vr m_o_rt.length Cm_o_vr, .slice Am_o_vv m_o_va.length Cm_o_vv, .slice Am_o_vn m_o_nx.length Cm_o_vn, .slice Am_vs1 m_s1.length Cm_vs1, .slice Am_vs2 m_s2.length Cm_vs2, .slice Am_vs3 m_s3.length Cm_vs3, .slice Am_vt1 m_t1.length Cm_vt1, .slice Am_vt2 m_t2.length Cm_vt2, .int .u64 (m_ht : Int), .int .u64 (m_tm : Int), .int .u64 (m_at_ : Int), .int .u64 (m_per : Int), .string m_pk_src, .string m_pk_dst, .int .u64 (m_pk_seq : Int), .slice Am_pk_vd m_pk_da.length Cm_pk_vd, .int .u64 (m_pk_ht : Int), .int .u64 (m_pk_tm : Int), .slice Am_vak m_ak.length Cm_vak, .int .i64 m_pf_n, .slice Am_vpf m_pf_l.length Cm_vpf, .int .u64 (m_nx : Int), .string m_pay_d, .int .u64 (m_pay_x.a : Int), .int .u64 (m_pay_x.b : Int), .int .u64 (m_pay_x.c : Int), .int .u64 (m_pay_x.d : Int), .int .u64 (m_pay_y.a : Int), .int .u64 (m_pay_y.b : Int), .int .u64 (m_pay_y.c : Int), .int .u64 (m_pay_y.d : Int), .int .u64 (m_pay_z.a : Int), .int .u64 (m_pay_z.b : Int), .int .u64 (m_pay_z.c : Int), .int .u64 (m_pay_z.d : Int), .slice Am_vos m_os.length Cm_vos]).toArray) 48)).alloc (.cells #[.int .i64 0, .string ⟨#[]⟩, .string ⟨#[]⟩, .int .u64 0, .int .u64 0, .int .u64 0, .int .u64 0, .string ⟨#[]⟩, .string ⟨#[]⟩, .string ⟨#[]⟩, .string ⟨#[]⟩, .string ⟨#[]⟩, .string ⟨#[]⟩, .string ⟨#[]⟩, .string ⟨#[]⟩, .string ⟨#[]⟩, .bool false, .string ⟨#[]⟩, .int .u64 0, .int .u64 0, .slice none 0 0, .slice none 0 0, .slice none 0 0, .string ⟨#[]⟩, .int .u64 0, .int .u64 0, .slice none 0 0, .slice none 0 0, .slice none 0 0, .slice none 0 0, .slice none 0 0, .slice none 0 0, .slice none 0 0, .slice none 0 0, .int .u64 0, .int .u64 0, .int .u64 0, .int .u64 0, .string ⟨#[]⟩, .string ⟨#[]⟩, .int .u64 0, .slice none 0 0, .int .u64 0, .int .u64 0, .slice none 0 0, .int .i64 0, .slice none 0 0, .int .u64 0, .string ⟨#[]⟩, .int .u64 0, .int .u64 0, .int .u64 0, .int .u64 0, .int .u64 0, .int .u64 0, .int .u64 0, .int .u64 0, .int .u64 0, .int .u64 0, .int .u64 0, .int .u64 0, .slice none 0 0] 46)).setCells (w.heap.size + 1) 0 ML) = W2 at *
    refine (H2.out _ b5).mono ?_
    rintro e w1 ⟨⟨sv, rfl⟩, A1, hk1⟩
    have hkf := (Kept.of_belowX b5).transX hk1
    clear H2 HM b5 hk1 HRG3 HTH HONE
    go_wp2_with fail
    go_ret
    exact ⟨by rw [HU2.out.1]; rfl, by rw [HU2.out.2]; exact A1, hkf⟩
  have HU12 := Lib.hid (HU.out.trans (if_neg k2))
  clear HU H2
  by_cases k3 : m_kd = 3
  · have HU2 := Lib.hid (Prod.mk.inj (HU12.out.trans (if_pos k3)))
    subst k3
    clear HU12 H4 H5 H6 H7 H8 H9 H10 H11 H12 H13 H14 HUP
    obtain ⟨m3, hrg, b5⟩ := HM.out
    have ckd := range_cellT hrg 0 (.int .i64 3) (by rw [HML.out]; rfl)
    have c7 := range_cellT hrg 7 (.string m_cl) (by rw [HML.out]; rfl)
    have c17 := range_cellT hrg 17 (.string m_h_ch) (by rw [HML.out]; rfl)
    have c18 := range_cellT hrg 18 (.int .u64 (m_h_ht : Int)) (by rw [HML.out]; rfl)
    have c19 := range_cellT hrg 19 (.int .u64 (m_h_tm : Int)) (by rw [HML.out]; rfl)
    have c20 := range_cellT hrg 20 (.slice Am_h_vr m_h_rt.length Cm_h_vr) (by rw [HML.out]; rfl)
    have c21 := range_cellT hrg 21 (.slice Am_h_vv m_h_va.length Cm_h_vv) (by rw [HML.out]; rfl)
    have c22 := range_cellT hrg 22 (.slice Am_h_vn m_h_nx.length Cm_h_vn) (by rw [HML.out]; rfl)
    have c29 := range_cellT hrg 29 (.slice Am_vs1 m_s1.length Cm_vs1) (by rw [HML.out]; rfl)
    have c31 := range_cellT hrg 31 (.slice Am_vs3 m_s3.length Cm_vs3) (by rw [HML.out]; rfl)
    have c32 := range_cellT hrg 32 (.slice Am_vt1 m_t1.length Cm_vt1) (by rw [HML.out]; rfl)
    have c36 := range_cellT hrg 36 (.int .u64 (m_at_ : Int)) (by rw [HML.out]; rfl)
    have cnw := blk_cell m3 2
    clear m3 hrg b5
    go_enter Tryz.func39, Tryz.ntmps39
    go_wp2_with (first
      | (with_reducible refine at_load 46 ?_; refine wpList_load_mid rfl 46 (.tmp 16) rfl w.heap.size 4 rfl ML _ HRG3.out Tryz.underlying46 rfl HINF.out ?_)
      | (with_reducible refine at_store 46 ?_; refine wpList_store_mid rfl 46 (.tmp 5) (.tmp 17) rfl (w.heap.size + 1) 0 ML.toArray rfl rfl HTH.out (by have := HINF.out; simpa using this) HONE.out ?_))
    try simp only [List.toList_toArray]
    have b5 := HM.out.2.2
    clear ckd c7 c17 c18 c19 c20 c21 c22 c29 c31 c32 c36 cnw
    generalize (((w.alloc (.cells ((.int .i64 x_on :: .int .u64 (x_self : Int) :: .int .u64 (x_now : Int) :: .string x_sg :: [.int .i64 3, .string m_to, .string m_dn, .int .u64 (m_am.a : Int), .int .u64 (m_am.b : Int), .int .u64 (m_am.c : Int), .int .u64 (m_am.d : Int), .string m_cl, .string m_cc, .string m_cn, .string m_cd, .string m_ch, .string m_ce, .string m_po, .string m_pe, .string m_ve, .bool m_od, .string m_h_ch, .int .u64 (m_h_ht : Int), .int .u64 (m_h_tm : Int), .slice Am_h_vr m_h_rt.length Cm_h_vr, .slice Am_h_vv m_h_va.length Cm_h_vv, .slice Am_h_vn m_h_nx.length Cm_h_vn, .string m_o_ch, .int .u64 (m_o_ht : Int), .int .u64 (m_o_tm : Int), .slice Am_o_vr m_o_rt.length Cm_o_vr, .slice Am_o_vv m_o_va.length Cm_o_vv, .slice Am_o_vn m_o_nx.length Cm_o_vn, .slice Am_vs1 m_s1.length Cm_vs1, .slice Am_vs2 m_s2.length Cm_vs2, .slice Am_vs3 m_s3.length Cm_vs3, .slice Am_vt1 m_t1.length Cm_vt1, .slice Am_vt2 m_t2.length Cm_vt2, .int .u64 (m_ht : Int), .int .u64 (m_tm : Int), .int .u64 (m_at_ : Int), .int .u64 (m_per : Int), .string m_pk_src, .string m_pk_dst, .int .u64 (m_pk_seq : Int), .slice Am_pk_vd m_pk_da.length Cm_pk_vd, .int .u64 (m_pk_ht : Int), .int .u64 (m_pk_tm : Int), .slice Am_vak m_ak.length Cm_vak, .int .i64 m_pf_n, .slice Am_vpf m_pf_l.length Cm_vpf, .int .u64 (m_nx : Int), .string m_pay_d, .int .u64 (m_pay_x.a : Int), .int .u64 (m_pay_x.b : Int), .int .u64 (m_pay_x.c : Int), .int .u64 (m_pay_x.d : Int), .int .u64 (m_pay_y.a : Int), .int .u64 (m_pay_y.b : Int), .int .u64 (m_pay_y.c : Int), .int .u64 (m_pay_y.d : Int), .int .u64 (m_pay_z.a : Int), .int .u64 (m_pay_z.b : Int), .int .u64 (m_pay_z.c : Int), .int .u64 (m_pay_z.d : Int), .slice Am_vos m_os.length Cm_vos]).toArray) 48)).alloc (.cells #[.int .i64 0, .string ⟨#[]⟩, .string ⟨#[]⟩, .int .u64 0, .int .u64 0, .int .u64 0, .int .u64 0, .string ⟨#[]⟩, .string ⟨#[]⟩, .string ⟨#[]⟩, .string ⟨#[]⟩, .string ⟨#[]⟩, .string ⟨#[]⟩, .string ⟨#[]⟩, .string ⟨#[]⟩, .string ⟨#[]⟩, .bool false, .string ⟨#[]⟩, .int .u64 0, .int .u64 0, .slice none 0 0, .slice none 0 0, .slice none 0 0, .string ⟨#[]⟩, .int .u64 0, .int .u64 0, .slice none 0 0, .slice none 0 0, .slice none 0 0, .slice none 0 0, .slice none 0 0, .slice none 0 0, .slice none 0 0, .slice none 0 0, .int .u64 0, .int .u64 0, .int .u64 0, .int .u64 0, .string ⟨#[]⟩, .string ⟨#[]⟩, .int .u64 0, .slice none 0 0, .int .u64 0, .int .u64 0, .slice none 0 0, .int .i64 0, .slice none 0 0, .int .u64 0, .string ⟨#[]⟩, .int .u64 0, .int .u64 0, .int .u64 0, .int .u64 0, .int .u64 0, .int .u64 0, .int .u64 0, .int .u64 0, .int .u64 0, .int .u64 0, .int .u64 0, .int .u64 0, .slice none 0 0] 46)).setCells (w.heap.size + 1) 0 ML) = W2 at *
    refine (H3.out _ b5).mono ?_
    rintro e w1 ⟨rfl, A1, hk1⟩
    have hkf := (Kept.of_belowX b5).transX hk1
    clear H3 HM b5 hk1 HRG3 HTH HONE
    go_wp2_with fail
    go_ret
    exact ⟨by rw [HU2.out.1]; rfl, by rw [HU2.out.2]; exact A1, hkf⟩
  have HU13 := Lib.hid (HU12.out.trans (if_neg k3))
  clear HU12 H3
  by_cases k4 : m_kd = 4
  · have HU2 := Lib.hid (Prod.mk.inj (HU13.out.trans (if_pos k4)))
    subst k4
    clear HU13 H5 H6 H7 H8 H9 H10 H11 H12 H13 H14 HUP
    obtain ⟨m3, hrg, b5⟩ := HM.out
    have ckd := range_cellT hrg 0 (.int .i64 4) (by rw [HML.out]; rfl)
    have c7 := range_cellT hrg 7 (.string m_cl) (by rw [HML.out]; rfl)
    have c17 := range_cellT hrg 17 (.string m_h_ch) (by rw [HML.out]; rfl)
    have c18 := range_cellT hrg 18 (.int .u64 (m_h_ht : Int)) (by rw [HML.out]; rfl)
    have c19 := range_cellT hrg 19 (.int .u64 (m_h_tm : Int)) (by rw [HML.out]; rfl)
    have c20 := range_cellT hrg 20 (.slice Am_h_vr m_h_rt.length Cm_h_vr) (by rw [HML.out]; rfl)
    have c21 := range_cellT hrg 21 (.slice Am_h_vv m_h_va.length Cm_h_vv) (by rw [HML.out]; rfl)
    have c22 := range_cellT hrg 22 (.slice Am_h_vn m_h_nx.length Cm_h_vn) (by rw [HML.out]; rfl)
    have c23 := range_cellT hrg 23 (.string m_o_ch) (by rw [HML.out]; rfl)
    have c24 := range_cellT hrg 24 (.int .u64 (m_o_ht : Int)) (by rw [HML.out]; rfl)
    have c25 := range_cellT hrg 25 (.int .u64 (m_o_tm : Int)) (by rw [HML.out]; rfl)
    have c26 := range_cellT hrg 26 (.slice Am_o_vr m_o_rt.length Cm_o_vr) (by rw [HML.out]; rfl)
    have c27 := range_cellT hrg 27 (.slice Am_o_vv m_o_va.length Cm_o_vv) (by rw [HML.out]; rfl)
    have c28 := range_cellT hrg 28 (.slice Am_o_vn m_o_nx.length Cm_o_vn) (by rw [HML.out]; rfl)
    have c29 := range_cellT hrg 29 (.slice Am_vs1 m_s1.length Cm_vs1) (by rw [HML.out]; rfl)
    have c30 := range_cellT hrg 30 (.slice Am_vs2 m_s2.length Cm_vs2) (by rw [HML.out]; rfl)
    have c31 := range_cellT hrg 31 (.slice Am_vs3 m_s3.length Cm_vs3) (by rw [HML.out]; rfl)
    have c32 := range_cellT hrg 32 (.slice Am_vt1 m_t1.length Cm_vt1) (by rw [HML.out]; rfl)
    have c33 := range_cellT hrg 33 (.slice Am_vt2 m_t2.length Cm_vt2) (by rw [HML.out]; rfl)
    have c36 := range_cellT hrg 36 (.int .u64 (m_at_ : Int)) (by rw [HML.out]; rfl)
    have cnw := blk_cell m3 2
    clear m3 hrg b5
    go_enter Tryz.func39, Tryz.ntmps39
    go_wp2_with (first
      | (with_reducible refine at_load 46 ?_; refine wpList_load_mid rfl 46 (.tmp 16) rfl w.heap.size 4 rfl ML _ HRG3.out Tryz.underlying46 rfl HINF.out ?_)
      | (with_reducible refine at_store 46 ?_; refine wpList_store_mid rfl 46 (.tmp 5) (.tmp 17) rfl (w.heap.size + 1) 0 ML.toArray rfl rfl HTH.out (by have := HINF.out; simpa using this) HONE.out ?_))
    try simp only [List.toList_toArray]
    have b5 := HM.out.2.2
    clear ckd c7 c17 c18 c19 c20 c21 c22 c23 c24 c25 c26 c27 c28 c29 c30 c31 c32 c33 c36 cnw
    generalize (((w.alloc (.cells ((.int .i64 x_on :: .int .u64 (x_self : Int) :: .int .u64 (x_now : Int) :: .string x_sg :: [.int .i64 4, .string m_to, .string m_dn, .int .u64 (m_am.a : Int), .int .u64 (m_am.b : Int), .int .u64 (m_am.c : Int), .int .u64 (m_am.d : Int), .string m_cl, .string m_cc, .string m_cn, .string m_cd, .string m_ch, .string m_ce, .string m_po, .string m_pe, .string m_ve, .bool m_od, .string m_h_ch, .int .u64 (m_h_ht : Int), .int .u64 (m_h_tm : Int), .slice Am_h_vr m_h_rt.length Cm_h_vr, .slice Am_h_vv m_h_va.length Cm_h_vv, .slice Am_h_vn m_h_nx.length Cm_h_vn, .string m_o_ch, .int .u64 (m_o_ht : Int), .int .u64 (m_o_tm : Int), .slice Am_o_vr m_o_rt.length Cm_o_vr, .slice Am_o_vv m_o_va.length Cm_o_vv, .slice Am_o_vn m_o_nx.length Cm_o_vn, .slice Am_vs1 m_s1.length Cm_vs1, .slice Am_vs2 m_s2.length Cm_vs2, .slice Am_vs3 m_s3.length Cm_vs3, .slice Am_vt1 m_t1.length Cm_vt1, .slice Am_vt2 m_t2.length Cm_vt2, .int .u64 (m_ht : Int), .int .u64 (m_tm : Int), .int .u64 (m_at_ : Int), .int .u64 (m_per : Int), .string m_pk_src, .string m_pk_dst, .int .u64 (m_pk_seq : Int), .slice Am_pk_vd m_pk_da.length Cm_pk_vd, .int .u64 (m_pk_ht : Int), .int .u64 (m_pk_tm : Int), .slice Am_vak m_ak.length Cm_vak, .int .i64 m_pf_n, .slice Am_vpf m_pf_l.length Cm_vpf, .int .u64 (m_nx : Int), .string m_pay_d, .int .u64 (m_pay_x.a : Int), .int .u64 (m_pay_x.b : Int), .int .u64 (m_pay_x.c : Int), .int .u64 (m_pay_x.d : Int), .int .u64 (m_pay_y.a : Int), .int .u64 (m_pay_y.b : Int), .int .u64 (m_pay_y.c : Int), .int .u64 (m_pay_y.d : Int), .int .u64 (m_pay_z.a : Int), .int .u64 (m_pay_z.b : Int), .int .u64 (m_pay_z.c : Int), .int .u64 (m_pay_z.d : Int), .slice Am_vos m_os.length Cm_vos]).toArray) 48)).alloc (.cells #[.int .i64 0, .string ⟨#[]⟩, .string ⟨#[]⟩, .int .u64 0, .int .u64 0, .int .u64 0, .int .u64 0, .string ⟨#[]⟩, .string ⟨#[]⟩, .string ⟨#[]⟩, .string ⟨#[]⟩, .string ⟨#[]⟩, .string ⟨#[]⟩, .string ⟨#[]⟩, .string ⟨#[]⟩, .string ⟨#[]⟩, .bool false, .string ⟨#[]⟩, .int .u64 0, .int .u64 0, .slice none 0 0, .slice none 0 0, .slice none 0 0, .string ⟨#[]⟩, .int .u64 0, .int .u64 0, .slice none 0 0, .slice none 0 0, .slice none 0 0, .slice none 0 0, .slice none 0 0, .slice none 0 0, .slice none 0 0, .slice none 0 0, .int .u64 0, .int .u64 0, .int .u64 0, .int .u64 0, .string ⟨#[]⟩, .string ⟨#[]⟩, .int .u64 0, .slice none 0 0, .int .u64 0, .int .u64 0, .slice none 0 0, .int .i64 0, .slice none 0 0, .int .u64 0, .string ⟨#[]⟩, .int .u64 0, .int .u64 0, .int .u64 0, .int .u64 0, .int .u64 0, .int .u64 0, .int .u64 0, .int .u64 0, .int .u64 0, .int .u64 0, .int .u64 0, .int .u64 0, .slice none 0 0] 46)).setCells (w.heap.size + 1) 0 ML) = W2 at *
    refine (H4.out _ b5).mono ?_
    rintro e w1 ⟨rfl, A1, hk1⟩
    have hkf := (Kept.of_belowX b5).transX hk1
    clear H4 HM b5 hk1 HRG3 HTH HONE
    go_wp2_with fail
    go_ret
    exact ⟨by rw [HU2.out.1]; rfl, by rw [HU2.out.2]; exact A1, hkf⟩
  have HU14 := Lib.hid (HU13.out.trans (if_neg k4))
  clear HU13 H4
  by_cases k5 : m_kd = 5
  · have HU2 := Lib.hid (Prod.mk.inj (HU14.out.trans (if_pos k5)))
    subst k5
    clear HU14 H6 H7 H8 H9 H10 H11 H12 H13 H14 HUP
    obtain ⟨m3, hrg, b5⟩ := HM.out
    have ckd := range_cellT hrg 0 (.int .i64 5) (by rw [HML.out]; rfl)
    have c7 := range_cellT hrg 7 (.string m_cl) (by rw [HML.out]; rfl)
    have c8 := range_cellT hrg 8 (.string m_cc) (by rw [HML.out]; rfl)
    clear m3 hrg b5
    go_enter Tryz.func39, Tryz.ntmps39
    go_wp2_with (first
      | (with_reducible refine at_load 46 ?_; refine wpList_load_mid rfl 46 (.tmp 16) rfl w.heap.size 4 rfl ML _ HRG3.out Tryz.underlying46 rfl HINF.out ?_)
      | (with_reducible refine at_store 46 ?_; refine wpList_store_mid rfl 46 (.tmp 5) (.tmp 17) rfl (w.heap.size + 1) 0 ML.toArray rfl rfl HTH.out (by have := HINF.out; simpa using this) HONE.out ?_))
    try simp only [List.toList_toArray]
    have b5 := HM.out.2.2
    clear ckd c7 c8
    generalize (((w.alloc (.cells ((.int .i64 x_on :: .int .u64 (x_self : Int) :: .int .u64 (x_now : Int) :: .string x_sg :: [.int .i64 5, .string m_to, .string m_dn, .int .u64 (m_am.a : Int), .int .u64 (m_am.b : Int), .int .u64 (m_am.c : Int), .int .u64 (m_am.d : Int), .string m_cl, .string m_cc, .string m_cn, .string m_cd, .string m_ch, .string m_ce, .string m_po, .string m_pe, .string m_ve, .bool m_od, .string m_h_ch, .int .u64 (m_h_ht : Int), .int .u64 (m_h_tm : Int), .slice Am_h_vr m_h_rt.length Cm_h_vr, .slice Am_h_vv m_h_va.length Cm_h_vv, .slice Am_h_vn m_h_nx.length Cm_h_vn, .string m_o_ch, .int .u64 (m_o_ht : Int), .int .u64 (m_o_tm : Int), .slice Am_o_vr m_o_rt.length Cm_o_vr, .slice Am_o_vv m_o_va.length Cm_o_vv, .slice Am_o_vn m_o_nx.length Cm_o_vn, .slice Am_vs1 m_s1.length Cm_vs1, .slice Am_vs2 m_s2.length Cm_vs2, .slice Am_vs3 m_s3.length Cm_vs3, .slice Am_vt1 m_t1.length Cm_vt1, .slice Am_vt2 m_t2.length Cm_vt2, .int .u64 (m_ht : Int), .int .u64 (m_tm : Int), .int .u64 (m_at_ : Int), .int .u64 (m_per : Int), .string m_pk_src, .string m_pk_dst, .int .u64 (m_pk_seq : Int), .slice Am_pk_vd m_pk_da.length Cm_pk_vd, .int .u64 (m_pk_ht : Int), .int .u64 (m_pk_tm : Int), .slice Am_vak m_ak.length Cm_vak, .int .i64 m_pf_n, .slice Am_vpf m_pf_l.length Cm_vpf, .int .u64 (m_nx : Int), .string m_pay_d, .int .u64 (m_pay_x.a : Int), .int .u64 (m_pay_x.b : Int), .int .u64 (m_pay_x.c : Int), .int .u64 (m_pay_x.d : Int), .int .u64 (m_pay_y.a : Int), .int .u64 (m_pay_y.b : Int), .int .u64 (m_pay_y.c : Int), .int .u64 (m_pay_y.d : Int), .int .u64 (m_pay_z.a : Int), .int .u64 (m_pay_z.b : Int), .int .u64 (m_pay_z.c : Int), .int .u64 (m_pay_z.d : Int), .slice Am_vos m_os.length Cm_vos]).toArray) 48)).alloc (.cells #[.int .i64 0, .string ⟨#[]⟩, .string ⟨#[]⟩, .int .u64 0, .int .u64 0, .int .u64 0, .int .u64 0, .string ⟨#[]⟩, .string ⟨#[]⟩, .string ⟨#[]⟩, .string ⟨#[]⟩, .string ⟨#[]⟩, .string ⟨#[]⟩, .string ⟨#[]⟩, .string ⟨#[]⟩, .string ⟨#[]⟩, .bool false, .string ⟨#[]⟩, .int .u64 0, .int .u64 0, .slice none 0 0, .slice none 0 0, .slice none 0 0, .string ⟨#[]⟩, .int .u64 0, .int .u64 0, .slice none 0 0, .slice none 0 0, .slice none 0 0, .slice none 0 0, .slice none 0 0, .slice none 0 0, .slice none 0 0, .slice none 0 0, .int .u64 0, .int .u64 0, .int .u64 0, .int .u64 0, .string ⟨#[]⟩, .string ⟨#[]⟩, .int .u64 0, .slice none 0 0, .int .u64 0, .int .u64 0, .slice none 0 0, .int .i64 0, .slice none 0 0, .int .u64 0, .string ⟨#[]⟩, .int .u64 0, .int .u64 0, .int .u64 0, .int .u64 0, .int .u64 0, .int .u64 0, .int .u64 0, .int .u64 0, .int .u64 0, .int .u64 0, .int .u64 0, .int .u64 0, .slice none 0 0] 46)).setCells (w.heap.size + 1) 0 ML) = W2 at *
    refine (H5.out _ b5).mono ?_
    rintro e w1 ⟨⟨sv, rfl⟩, A1, hk1⟩
    have hkf := (Kept.of_belowX b5).transX hk1
    clear H5 HM b5 hk1 HRG3 HTH HONE
    go_wp2_with fail
    go_ret
    exact ⟨by rw [HU2.out.1]; rfl, by rw [HU2.out.2]; exact A1, hkf⟩
  have HU15 := Lib.hid (HU14.out.trans (if_neg k5))
  clear HU14 H5
  by_cases k6 : m_kd = 6
  · have HU2 := Lib.hid (Prod.mk.inj (HU15.out.trans (if_pos k6)))
    subst k6
    clear HU15 H7 H8 H9 H10 H11 H12 H13 H14 HUP
    obtain ⟨m3, hrg, b5⟩ := HM.out
    have ckd := range_cellT hrg 0 (.int .i64 6) (by rw [HML.out]; rfl)
    have c7 := range_cellT hrg 7 (.string m_cl) (by rw [HML.out]; rfl)
    have c8 := range_cellT hrg 8 (.string m_cc) (by rw [HML.out]; rfl)
    have c10 := range_cellT hrg 10 (.string m_cd) (by rw [HML.out]; rfl)
    have c34 := range_cellT hrg 34 (.int .u64 (m_ht : Int)) (by rw [HML.out]; rfl)
    have c45 := range_cellT hrg 45 (.int .i64 m_pf_n) (by rw [HML.out]; rfl)
    have c46 := range_cellT hrg 46 (.slice Am_vpf m_pf_l.length Cm_vpf) (by rw [HML.out]; rfl)
    have cnw := blk_cell m3 2
    clear m3 hrg b5
    go_enter Tryz.func39, Tryz.ntmps39
    go_wp2_with (first
      | (with_reducible refine at_load 46 ?_; refine wpList_load_mid rfl 46 (.tmp 16) rfl w.heap.size 4 rfl ML _ HRG3.out Tryz.underlying46 rfl HINF.out ?_)
      | (with_reducible refine at_store 46 ?_; refine wpList_store_mid rfl 46 (.tmp 5) (.tmp 17) rfl (w.heap.size + 1) 0 ML.toArray rfl rfl HTH.out (by have := HINF.out; simpa using this) HONE.out ?_))
    try simp only [List.toList_toArray]
    have b5 := HM.out.2.2
    clear ckd c7 c8 c10 c34 c45 c46 cnw
    generalize (((w.alloc (.cells ((.int .i64 x_on :: .int .u64 (x_self : Int) :: .int .u64 (x_now : Int) :: .string x_sg :: [.int .i64 6, .string m_to, .string m_dn, .int .u64 (m_am.a : Int), .int .u64 (m_am.b : Int), .int .u64 (m_am.c : Int), .int .u64 (m_am.d : Int), .string m_cl, .string m_cc, .string m_cn, .string m_cd, .string m_ch, .string m_ce, .string m_po, .string m_pe, .string m_ve, .bool m_od, .string m_h_ch, .int .u64 (m_h_ht : Int), .int .u64 (m_h_tm : Int), .slice Am_h_vr m_h_rt.length Cm_h_vr, .slice Am_h_vv m_h_va.length Cm_h_vv, .slice Am_h_vn m_h_nx.length Cm_h_vn, .string m_o_ch, .int .u64 (m_o_ht : Int), .int .u64 (m_o_tm : Int), .slice Am_o_vr m_o_rt.length Cm_o_vr, .slice Am_o_vv m_o_va.length Cm_o_vv, .slice Am_o_vn m_o_nx.length Cm_o_vn, .slice Am_vs1 m_s1.length Cm_vs1, .slice Am_vs2 m_s2.length Cm_vs2, .slice Am_vs3 m_s3.length Cm_vs3, .slice Am_vt1 m_t1.length Cm_vt1, .slice Am_vt2 m_t2.length Cm_vt2, .int .u64 (m_ht : Int), .int .u64 (m_tm : Int), .int .u64 (m_at_ : Int), .int .u64 (m_per : Int), .string m_pk_src, .string m_pk_dst, .int .u64 (m_pk_seq : Int), .slice Am_pk_vd m_pk_da.length Cm_pk_vd, .int .u64 (m_pk_ht : Int), .int .u64 (m_pk_tm : Int), .slice Am_vak m_ak.length Cm_vak, .int .i64 m_pf_n, .slice Am_vpf m_pf_l.length Cm_vpf, .int .u64 (m_nx : Int), .string m_pay_d, .int .u64 (m_pay_x.a : Int), .int .u64 (m_pay_x.b : Int), .int .u64 (m_pay_x.c : Int), .int .u64 (m_pay_x.d : Int), .int .u64 (m_pay_y.a : Int), .int .u64 (m_pay_y.b : Int), .int .u64 (m_pay_y.c : Int), .int .u64 (m_pay_y.d : Int), .int .u64 (m_pay_z.a : Int), .int .u64 (m_pay_z.b : Int), .int .u64 (m_pay_z.c : Int), .int .u64 (m_pay_z.d : Int), .slice Am_vos m_os.length Cm_vos]).toArray) 48)).alloc (.cells #[.int .i64 0, .string ⟨#[]⟩, .string ⟨#[]⟩, .int .u64 0, .int .u64 0, .int .u64 0, .int .u64 0, .string ⟨#[]⟩, .string ⟨#[]⟩, .string ⟨#[]⟩, .string ⟨#[]⟩, .string ⟨#[]⟩, .string ⟨#[]⟩, .string ⟨#[]⟩, .string ⟨#[]⟩, .string ⟨#[]⟩, .bool false, .string ⟨#[]⟩, .int .u64 0, .int .u64 0, .slice none 0 0, .slice none 0 0, .slice none 0 0, .string ⟨#[]⟩, .int .u64 0, .int .u64 0, .slice none 0 0, .slice none 0 0, .slice none 0 0, .slice none 0 0, .slice none 0 0, .slice none 0 0, .slice none 0 0, .slice none 0 0, .int .u64 0, .int .u64 0, .int .u64 0, .int .u64 0, .string ⟨#[]⟩, .string ⟨#[]⟩, .int .u64 0, .slice none 0 0, .int .u64 0, .int .u64 0, .slice none 0 0, .int .i64 0, .slice none 0 0, .int .u64 0, .string ⟨#[]⟩, .int .u64 0, .int .u64 0, .int .u64 0, .int .u64 0, .int .u64 0, .int .u64 0, .int .u64 0, .int .u64 0, .int .u64 0, .int .u64 0, .int .u64 0, .int .u64 0, .slice none 0 0] 46)).setCells (w.heap.size + 1) 0 ML) = W2 at *
    refine (H6.out _ b5 _ _ rfl).mono ?_
    rintro e w1 ⟨⟨sv, rfl⟩, A1, hk1⟩
    have hkf := (Kept.of_belowX b5).transX hk1
    clear H6 HM b5 hk1 HRG3 HTH HONE
    go_wp2_with fail
    go_ret
    exact ⟨by rw [HU2.out.1]; rfl, by rw [HU2.out.2]; exact A1, hkf⟩
  have HU16 := Lib.hid (HU15.out.trans (if_neg k6))
  clear HU15 H6
  by_cases k7 : m_kd = 7
  · have HU2 := Lib.hid (Prod.mk.inj (HU16.out.trans (if_pos k7)))
    subst k7
    clear HU16 H8 H9 H10 H11 H12 H13 H14 HUP
    obtain ⟨m3, hrg, b5⟩ := HM.out
    have ckd := range_cellT hrg 0 (.int .i64 7) (by rw [HML.out]; rfl)
    have c9 := range_cellT hrg 9 (.string m_cn) (by rw [HML.out]; rfl)
    have c10 := range_cellT hrg 10 (.string m_cd) (by rw [HML.out]; rfl)
    have c34 := range_cellT hrg 34 (.int .u64 (m_ht : Int)) (by rw [HML.out]; rfl)
    have c45 := range_cellT hrg 45 (.int .i64 m_pf_n) (by rw [HML.out]; rfl)
    have c46 := range_cellT hrg 46 (.slice Am_vpf m_pf_l.length Cm_vpf) (by rw [HML.out]; rfl)
    have cnw := blk_cell m3 2
    clear m3 hrg b5
    go_enter Tryz.func39, Tryz.ntmps39
    go_wp2_with (first
      | (with_reducible refine at_load 46 ?_; refine wpList_load_mid rfl 46 (.tmp 16) rfl w.heap.size 4 rfl ML _ HRG3.out Tryz.underlying46 rfl HINF.out ?_)
      | (with_reducible refine at_store 46 ?_; refine wpList_store_mid rfl 46 (.tmp 5) (.tmp 17) rfl (w.heap.size + 1) 0 ML.toArray rfl rfl HTH.out (by have := HINF.out; simpa using this) HONE.out ?_))
    try simp only [List.toList_toArray]
    have b5 := HM.out.2.2
    clear ckd c9 c10 c34 c45 c46 cnw
    generalize (((w.alloc (.cells ((.int .i64 x_on :: .int .u64 (x_self : Int) :: .int .u64 (x_now : Int) :: .string x_sg :: [.int .i64 7, .string m_to, .string m_dn, .int .u64 (m_am.a : Int), .int .u64 (m_am.b : Int), .int .u64 (m_am.c : Int), .int .u64 (m_am.d : Int), .string m_cl, .string m_cc, .string m_cn, .string m_cd, .string m_ch, .string m_ce, .string m_po, .string m_pe, .string m_ve, .bool m_od, .string m_h_ch, .int .u64 (m_h_ht : Int), .int .u64 (m_h_tm : Int), .slice Am_h_vr m_h_rt.length Cm_h_vr, .slice Am_h_vv m_h_va.length Cm_h_vv, .slice Am_h_vn m_h_nx.length Cm_h_vn, .string m_o_ch, .int .u64 (m_o_ht : Int), .int .u64 (m_o_tm : Int), .slice Am_o_vr m_o_rt.length Cm_o_vr, .slice Am_o_vv m_o_va.length Cm_o_vv, .slice Am_o_vn m_o_nx.length Cm_o_vn, .slice Am_vs1 m_s1.length Cm_vs1, .slice Am_vs2 m_s2.length Cm_vs2, .slice Am_vs3 m_s3.length Cm_vs3, .slice Am_vt1 m_t1.length Cm_vt1, .slice Am_vt2 m_t2.length Cm_vt2, .int .u64 (m_ht : Int), .int .u64 (m_tm : Int), .int .u64 (m_at_ : Int), .int .u64 (m_per : Int), .string m_pk_src, .string m_pk_dst, .int .u64 (m_pk_seq : Int), .slice Am_pk_vd m_pk_da.length Cm_pk_vd, .int .u64 (m_pk_ht : Int), .int .u64 (m_pk_tm : Int), .slice Am_vak m_ak.length Cm_vak, .int .i64 m_pf_n, .slice Am_vpf m_pf_l.length Cm_vpf, .int .u64 (m_nx : Int), .string m_pay_d, .int .u64 (m_pay_x.a : Int), .int .u64 (m_pay_x.b : Int), .int .u64 (m_pay_x.c : Int), .int .u64 (m_pay_x.d : Int), .int .u64 (m_pay_y.a : Int), .int .u64 (m_pay_y.b : Int), .int .u64 (m_pay_y.c : Int), .int .u64 (m_pay_y.d : Int), .int .u64 (m_pay_z.a : Int), .int .u64 (m_pay_z.b : Int), .int .u64 (m_pay_z.c : Int), .int .u64 (m_pay_z.d : Int), .slice Am_vos m_os.length Cm_vos]).toArray) 48)).alloc (.cells #[.int .i64 0, .string ⟨#[]⟩, .string ⟨#[]⟩, .int .u64 0, .int .u64 0, .int .u64 0, .int .u64 0, .string ⟨#[]⟩, .string ⟨#[]⟩, .string ⟨#[]⟩, .string ⟨#[]⟩, .string ⟨#[]⟩, .string ⟨#[]⟩, .string ⟨#[]⟩, .string ⟨#[]⟩, .string ⟨#[]⟩, .bool false, .string ⟨#[]⟩, .int .u64 0, .int .u64 0, .slice none 0 0, .slice none 0 0, .slice none 0 0, .string ⟨#[]⟩, .int .u64 0, .int .u64 0, .slice none 0 0, .slice none 0 0, .slice none 0 0, .slice none 0 0, .slice none 0 0, .slice none 0 0, .slice none 0 0, .slice none 0 0, .int .u64 0, .int .u64 0, .int .u64 0, .int .u64 0, .string ⟨#[]⟩, .string ⟨#[]⟩, .int .u64 0, .slice none 0 0, .int .u64 0, .int .u64 0, .slice none 0 0, .int .i64 0, .slice none 0 0, .int .u64 0, .string ⟨#[]⟩, .int .u64 0, .int .u64 0, .int .u64 0, .int .u64 0, .int .u64 0, .int .u64 0, .int .u64 0, .int .u64 0, .int .u64 0, .int .u64 0, .int .u64 0, .int .u64 0, .slice none 0 0] 46)).setCells (w.heap.size + 1) 0 ML) = W2 at *
    refine (H7.out _ b5 _ _ rfl).mono ?_
    rintro e w1 ⟨rfl, A1, hk1⟩
    have hkf := (Kept.of_belowX b5).transX hk1
    clear H7 HM b5 hk1 HRG3 HTH HONE
    go_wp2_with fail
    go_ret
    exact ⟨by rw [HU2.out.1]; rfl, by rw [HU2.out.2]; exact A1, hkf⟩
  have HU17 := Lib.hid (HU16.out.trans (if_neg k7))
  clear HU16 H7
  by_cases k8 : m_kd = 8
  · have HU2 := Lib.hid (Prod.mk.inj (HU17.out.trans (if_pos k8)))
    subst k8
    clear HU17 H9 H10 H11 H12 H13 H14 HUP
    obtain ⟨m3, hrg, b5⟩ := HM.out
    have ckd := range_cellT hrg 0 (.int .i64 8) (by rw [HML.out]; rfl)
    have c9 := range_cellT hrg 9 (.string m_cn) (by rw [HML.out]; rfl)
    have c34 := range_cellT hrg 34 (.int .u64 (m_ht : Int)) (by rw [HML.out]; rfl)
    have c45 := range_cellT hrg 45 (.int .i64 m_pf_n) (by rw [HML.out]; rfl)
    have c46 := range_cellT hrg 46 (.slice Am_vpf m_pf_l.length Cm_vpf) (by rw [HML.out]; rfl)
    have cnw := blk_cell m3 2
    clear m3 hrg b5
    go_enter Tryz.func39, Tryz.ntmps39
    go_wp2_with (first
      | (with_reducible refine at_load 46 ?_; refine wpList_load_mid rfl 46 (.tmp 16) rfl w.heap.size 4 rfl ML _ HRG3.out Tryz.underlying46 rfl HINF.out ?_)
      | (with_reducible refine at_store 46 ?_; refine wpList_store_mid rfl 46 (.tmp 5) (.tmp 17) rfl (w.heap.size + 1) 0 ML.toArray rfl rfl HTH.out (by have := HINF.out; simpa using this) HONE.out ?_))
    try simp only [List.toList_toArray]
    have b5 := HM.out.2.2
    clear ckd c9 c34 c45 c46 cnw
    generalize (((w.alloc (.cells ((.int .i64 x_on :: .int .u64 (x_self : Int) :: .int .u64 (x_now : Int) :: .string x_sg :: [.int .i64 8, .string m_to, .string m_dn, .int .u64 (m_am.a : Int), .int .u64 (m_am.b : Int), .int .u64 (m_am.c : Int), .int .u64 (m_am.d : Int), .string m_cl, .string m_cc, .string m_cn, .string m_cd, .string m_ch, .string m_ce, .string m_po, .string m_pe, .string m_ve, .bool m_od, .string m_h_ch, .int .u64 (m_h_ht : Int), .int .u64 (m_h_tm : Int), .slice Am_h_vr m_h_rt.length Cm_h_vr, .slice Am_h_vv m_h_va.length Cm_h_vv, .slice Am_h_vn m_h_nx.length Cm_h_vn, .string m_o_ch, .int .u64 (m_o_ht : Int), .int .u64 (m_o_tm : Int), .slice Am_o_vr m_o_rt.length Cm_o_vr, .slice Am_o_vv m_o_va.length Cm_o_vv, .slice Am_o_vn m_o_nx.length Cm_o_vn, .slice Am_vs1 m_s1.length Cm_vs1, .slice Am_vs2 m_s2.length Cm_vs2, .slice Am_vs3 m_s3.length Cm_vs3, .slice Am_vt1 m_t1.length Cm_vt1, .slice Am_vt2 m_t2.length Cm_vt2, .int .u64 (m_ht : Int), .int .u64 (m_tm : Int), .int .u64 (m_at_ : Int), .int .u64 (m_per : Int), .string m_pk_src, .string m_pk_dst, .int .u64 (m_pk_seq : Int), .slice Am_pk_vd m_pk_da.length Cm_pk_vd, .int .u64 (m_pk_ht : Int), .int .u64 (m_pk_tm : Int), .slice Am_vak m_ak.length Cm_vak, .int .i64 m_pf_n, .slice Am_vpf m_pf_l.length Cm_vpf, .int .u64 (m_nx : Int), .string m_pay_d, .int .u64 (m_pay_x.a : Int), .int .u64 (m_pay_x.b : Int), .int .u64 (m_pay_x.c : Int), .int .u64 (m_pay_x.d : Int), .int .u64 (m_pay_y.a : Int), .int .u64 (m_pay_y.b : Int), .int .u64 (m_pay_y.c : Int), .int .u64 (m_pay_y.d : Int), .int .u64 (m_pay_z.a : Int), .int .u64 (m_pay_z.b : Int), .int .u64 (m_pay_z.c : Int), .int .u64 (m_pay_z.d : Int), .slice Am_vos m_os.length Cm_vos]).toArray) 48)).alloc (.cells #[.int .i64 0, .string ⟨#[]⟩, .string ⟨#[]⟩, .int .u64 0, .int .u64 0, .int .u64 0, .int .u64 0, .string ⟨#[]⟩, .string ⟨#[]⟩, .string ⟨#[]⟩, .string ⟨#[]⟩, .string ⟨#[]⟩, .string ⟨#[]⟩, .string ⟨#[]⟩, .string ⟨#[]⟩, .string ⟨#[]⟩, .bool false, .string ⟨#[]⟩, .int .u64 0, .int .u64 0, .slice none 0 0, .slice none 0 0, .slice none 0 0, .string ⟨#[]⟩, .int .u64 0, .int .u64 0, .slice none 0 0, .slice none 0 0, .slice none 0 0, .slice none 0 0, .slice none 0 0, .slice none 0 0, .slice none 0 0, .slice none 0 0, .int .u64 0, .int .u64 0, .int .u64 0, .int .u64 0, .string ⟨#[]⟩, .string ⟨#[]⟩, .int .u64 0, .slice none 0 0, .int .u64 0, .int .u64 0, .slice none 0 0, .int .i64 0, .slice none 0 0, .int .u64 0, .string ⟨#[]⟩, .int .u64 0, .int .u64 0, .int .u64 0, .int .u64 0, .int .u64 0, .int .u64 0, .int .u64 0, .int .u64 0, .int .u64 0, .int .u64 0, .int .u64 0, .int .u64 0, .slice none 0 0] 46)).setCells (w.heap.size + 1) 0 ML) = W2 at *
    refine (H8.out _ b5 _ _ rfl).mono ?_
    rintro e w1 ⟨rfl, A1, hk1⟩
    have hkf := (Kept.of_belowX b5).transX hk1
    clear H8 HM b5 hk1 HRG3 HTH HONE
    go_wp2_with fail
    go_ret
    exact ⟨by rw [HU2.out.1]; rfl, by rw [HU2.out.2]; exact A1, hkf⟩
  have HU18 := Lib.hid (HU17.out.trans (if_neg k8))
  clear HU17 H8
  by_cases k9 : m_kd = 9
  · have HU2 := Lib.hid (Prod.mk.inj (HU18.out.trans (if_pos k9)))
    subst k9
    clear HU18 H10 H11 H12 H13 H14 HUP
    obtain ⟨m3, hrg, b5⟩ := HM.out
    have ckd := range_cellT hrg 0 (.int .i64 9) (by rw [HML.out]; rfl)
    have c9 := range_cellT hrg 9 (.string m_cn) (by rw [HML.out]; rfl)
    have c13 := range_cellT hrg 13 (.string m_po) (by rw [HML.out]; rfl)
    have c14 := range_cellT hrg 14 (.string m_pe) (by rw [HML.out]; rfl)
    have c16 := range_cellT hrg 16 (.bool m_od) (by rw [HML.out]; rfl)
    have c15 := range_cellT hrg 15 (.string m_ve) (by rw [HML.out]; rfl)
    clear m3 hrg b5
    go_enter Tryz.func39, Tryz.ntmps39
    go_wp2_with (first
      | (with_reducible refine at_load 46 ?_; refine wpList_load_mid rfl 46 (.tmp 16) rfl w.heap.size 4 rfl ML _ HRG3.out Tryz.underlying46 rfl HINF.out ?_)
      | (with_reducible refine at_store 46 ?_; refine wpList_store_mid rfl 46 (.tmp 5) (.tmp 17) rfl (w.heap.size + 1) 0 ML.toArray rfl rfl HTH.out (by have := HINF.out; simpa using this) HONE.out ?_))
    try simp only [List.toList_toArray]
    have b5 := HM.out.2.2
    clear ckd c9 c13 c14 c16 c15
    generalize (((w.alloc (.cells ((.int .i64 x_on :: .int .u64 (x_self : Int) :: .int .u64 (x_now : Int) :: .string x_sg :: [.int .i64 9, .string m_to, .string m_dn, .int .u64 (m_am.a : Int), .int .u64 (m_am.b : Int), .int .u64 (m_am.c : Int), .int .u64 (m_am.d : Int), .string m_cl, .string m_cc, .string m_cn, .string m_cd, .string m_ch, .string m_ce, .string m_po, .string m_pe, .string m_ve, .bool m_od, .string m_h_ch, .int .u64 (m_h_ht : Int), .int .u64 (m_h_tm : Int), .slice Am_h_vr m_h_rt.length Cm_h_vr, .slice Am_h_vv m_h_va.length Cm_h_vv, .slice Am_h_vn m_h_nx.length Cm_h_vn, .string m_o_ch, .int .u64 (m_o_ht : Int), .int .u64 (m_o_tm : Int), .slice Am_o_vr m_o_rt.length Cm_o_vr, .slice Am_o_vv m_o_va.length Cm_o_vv, .slice Am_o_vn m_o_nx.length Cm_o_vn, .slice Am_vs1 m_s1.length Cm_vs1, .slice Am_vs2 m_s2.length Cm_vs2, .slice Am_vs3 m_s3.length Cm_vs3, .slice Am_vt1 m_t1.length Cm_vt1, .slice Am_vt2 m_t2.length Cm_vt2, .int .u64 (m_ht : Int), .int .u64 (m_tm : Int), .int .u64 (m_at_ : Int), .int .u64 (m_per : Int), .string m_pk_src, .string m_pk_dst, .int .u64 (m_pk_seq : Int), .slice Am_pk_vd m_pk_da.length Cm_pk_vd, .int .u64 (m_pk_ht : Int), .int .u64 (m_pk_tm : Int), .slice Am_vak m_ak.length Cm_vak, .int .i64 m_pf_n, .slice Am_vpf m_pf_l.length Cm_vpf, .int .u64 (m_nx : Int), .string m_pay_d, .int .u64 (m_pay_x.a : Int), .int .u64 (m_pay_x.b : Int), .int .u64 (m_pay_x.c : Int), .int .u64 (m_pay_x.d : Int), .int .u64 (m_pay_y.a : Int), .int .u64 (m_pay_y.b : Int), .int .u64 (m_pay_y.c : Int), .int .u64 (m_pay_y.d : Int), .int .u64 (m_pay_z.a : Int), .int .u64 (m_pay_z.b : Int), .int .u64 (m_pay_z.c : Int), .int .u64 (m_pay_z.d : Int), .slice Am_vos m_os.length Cm_vos]).toArray) 48)).alloc (.cells #[.int .i64 0, .string ⟨#[]⟩, .string ⟨#[]⟩, .int .u64 0, .int .u64 0, .int .u64 0, .int .u64 0, .string ⟨#[]⟩, .string ⟨#[]⟩, .string ⟨#[]⟩, .string ⟨#[]⟩, .string ⟨#[]⟩, .string ⟨#[]⟩, .string ⟨#[]⟩, .string ⟨#[]⟩, .string ⟨#[]⟩, .bool false, .string ⟨#[]⟩, .int .u64 0, .int .u64 0, .slice none 0 0, .slice none 0 0, .slice none 0 0, .string ⟨#[]⟩, .int .u64 0, .int .u64 0, .slice none 0 0, .slice none 0 0, .slice none 0 0, .slice none 0 0, .slice none 0 0, .slice none 0 0, .slice none 0 0, .slice none 0 0, .int .u64 0, .int .u64 0, .int .u64 0, .int .u64 0, .string ⟨#[]⟩, .string ⟨#[]⟩, .int .u64 0, .slice none 0 0, .int .u64 0, .int .u64 0, .slice none 0 0, .int .i64 0, .slice none 0 0, .int .u64 0, .string ⟨#[]⟩, .int .u64 0, .int .u64 0, .int .u64 0, .int .u64 0, .int .u64 0, .int .u64 0, .int .u64 0, .int .u64 0, .int .u64 0, .int .u64 0, .int .u64 0, .int .u64 0, .slice none 0 0] 46)).setCells (w.heap.size + 1) 0 ML) = W2 at *
    refine (H9.out _ b5).mono ?_
    rintro e w1 ⟨⟨sv, rfl⟩, A1, hk1⟩
    have hkf := (Kept.of_belowX b5).transX hk1
    clear H9 HM b5 hk1 HRG3 HTH HONE
    go_wp2_with fail
    go_ret
    exact ⟨by rw [HU2.out.1]; rfl, by rw [HU2.out.2]; exact A1, hkf⟩
  have HU19 := Lib.hid (HU18.out.trans (if_neg k9))
  clear HU18 H9
  by_cases k10 : m_kd = 10
  · have HU2 := Lib.hid (Prod.mk.inj (HU19.out.trans (if_pos k10)))
    subst k10
    clear HU19 H11 H12 H13 H14 HUP
    obtain ⟨m3, hrg, b5⟩ := HM.out
    have ckd := range_cellT hrg 0 (.int .i64 10) (by rw [HML.out]; rfl)
    have c16 := range_cellT hrg 16 (.bool m_od) (by rw [HML.out]; rfl)
    have c13 := range_cellT hrg 13 (.string m_po) (by rw [HML.out]; rfl)
    have c14 := range_cellT hrg 14 (.string m_pe) (by rw [HML.out]; rfl)
    have c9 := range_cellT hrg 9 (.string m_cn) (by rw [HML.out]; rfl)
    have c12 := range_cellT hrg 12 (.string m_ce) (by rw [HML.out]; rfl)
    have c15 := range_cellT hrg 15 (.string m_ve) (by rw [HML.out]; rfl)
    have c34 := range_cellT hrg 34 (.int .u64 (m_ht : Int)) (by rw [HML.out]; rfl)
    have c45 := range_cellT hrg 45 (.int .i64 m_pf_n) (by rw [HML.out]; rfl)
    have c46 := range_cellT hrg 46 (.slice Am_vpf m_pf_l.length Cm_vpf) (by rw [HML.out]; rfl)
    have cnw := blk_cell m3 2
    clear m3 hrg b5
    go_enter Tryz.func39, Tryz.ntmps39
    go_wp2_with (first
      | (with_reducible refine at_load 46 ?_; refine wpList_load_mid rfl 46 (.tmp 16) rfl w.heap.size 4 rfl ML _ HRG3.out Tryz.underlying46 rfl HINF.out ?_)
      | (with_reducible refine at_store 46 ?_; refine wpList_store_mid rfl 46 (.tmp 5) (.tmp 17) rfl (w.heap.size + 1) 0 ML.toArray rfl rfl HTH.out (by have := HINF.out; simpa using this) HONE.out ?_))
    try simp only [List.toList_toArray]
    have b5 := HM.out.2.2
    clear ckd c16 c13 c14 c9 c12 c15 c34 c45 c46 cnw
    generalize (((w.alloc (.cells ((.int .i64 x_on :: .int .u64 (x_self : Int) :: .int .u64 (x_now : Int) :: .string x_sg :: [.int .i64 10, .string m_to, .string m_dn, .int .u64 (m_am.a : Int), .int .u64 (m_am.b : Int), .int .u64 (m_am.c : Int), .int .u64 (m_am.d : Int), .string m_cl, .string m_cc, .string m_cn, .string m_cd, .string m_ch, .string m_ce, .string m_po, .string m_pe, .string m_ve, .bool m_od, .string m_h_ch, .int .u64 (m_h_ht : Int), .int .u64 (m_h_tm : Int), .slice Am_h_vr m_h_rt.length Cm_h_vr, .slice Am_h_vv m_h_va.length Cm_h_vv, .slice Am_h_vn m_h_nx.length Cm_h_vn, .string m_o_ch, .int .u64 (m_o_ht : Int), .int .u64 (m_o_tm : Int), .slice Am_o_vr m_o_rt.length Cm_o_vr, .slice Am_o_vv m_o_va.length Cm_o_vv, .slice Am_o_vn m_o_nx.length Cm_o_vn, .slice Am_vs1 m_s1.length Cm_vs1, .slice Am_vs2 m_s2.length Cm_vs2, .slice Am_vs3 m_s3.length Cm_vs3, .slice Am_vt1 m_t1.length Cm_vt1, .slice Am_vt2 m_t2.length Cm_vt2, .int .u64 (m_ht : Int), .int .u64 (m_tm : Int), .int .u64 (m_at_ : Int), .int .u64 (m_per : Int), .string m_pk_src, .string m_pk_dst, .int .u64 (m_pk_seq : Int), .slice Am_pk_vd m_pk_da.length Cm_pk_vd, .int .u64 (m_pk_ht : Int), .int .u64 (m_pk_tm : Int), .slice Am_vak m_ak.length Cm_vak, .int .i64 m_pf_n, .slice Am_vpf m_pf_l.length Cm_vpf, .int .u64 (m_nx : Int), .string m_pay_d, .int .u64 (m_pay_x.a : Int), .int .u64 (m_pay_x.b : Int), .int .u64 (m_pay_x.c : Int), .int .u64 (m_pay_x.d : Int), .int .u64 (m_pay_y.a : Int), .int .u64 (m_pay_y.b : Int), .int .u64 (m_pay_y.c : Int), .int .u64 (m_pay_y.d : Int), .int .u64 (m_pay_z.a : Int), .int .u64 (m_pay_z.b : Int), .int .u64 (m_pay_z.c : Int), .int .u64 (m_pay_z.d : Int), .slice Am_vos m_os.length Cm_vos]).toArray) 48)).alloc (.cells #[.int .i64 0, .string ⟨#[]⟩, .string ⟨#[]⟩, .int .u64 0, .int .u64 0, .int .u64 0, .int .u64 0, .string ⟨#[]⟩, .string ⟨#[]⟩, .string ⟨#[]⟩, .string ⟨#[]⟩, .string ⟨#[]⟩, .string ⟨#[]⟩, .string ⟨#[]⟩, .string ⟨#[]⟩, .string ⟨#[]⟩, .bool false, .string ⟨#[]⟩, .int .u64 0, .int .u64 0, .slice none 0 0, .slice none 0 0, .slice none 0 0, .string ⟨#[]⟩, .int .u64 0, .int .u64 0, .slice none 0 0, .slice none 0 0, .slice none 0 0, .slice none 0 0, .slice none 0 0, .slice none 0 0, .slice none 0 0, .slice none 0 0, .int .u64 0, .int .u64 0, .int .u64 0, .int .u64 0, .string ⟨#[]⟩, .string ⟨#[]⟩, .int .u64 0, .slice none 0 0, .int .u64 0, .int .u64 0, .slice none 0 0, .int .i64 0, .slice none 0 0, .int .u64 0, .string ⟨#[]⟩, .int .u64 0, .int .u64 0, .int .u64 0, .int .u64 0, .int .u64 0, .int .u64 0, .int .u64 0, .int .u64 0, .int .u64 0, .int .u64 0, .int .u64 0, .int .u64 0, .slice none 0 0] 46)).setCells (w.heap.size + 1) 0 ML) = W2 at *
    refine (H10.out _ b5 _ _ rfl).mono ?_
    rintro e w1 ⟨⟨sv, rfl⟩, A1, hk1⟩
    have hkf := (Kept.of_belowX b5).transX hk1
    clear H10 HM b5 hk1 HRG3 HTH HONE
    go_wp2_with fail
    go_ret
    exact ⟨by rw [HU2.out.1]; rfl, by rw [HU2.out.2]; exact A1, hkf⟩
  have HU20 := Lib.hid (HU19.out.trans (if_neg k10))
  clear HU19 H10
  by_cases k11 : m_kd = 11
  · have HU2 := Lib.hid (Prod.mk.inj (HU20.out.trans (if_pos k11)))
    subst k11
    clear HU20 H12 H13 H14 HUP
    obtain ⟨m3, hrg, b5⟩ := HM.out
    have ckd := range_cellT hrg 0 (.int .i64 11) (by rw [HML.out]; rfl)
    have c11 := range_cellT hrg 11 (.string m_ch) (by rw [HML.out]; rfl)
    have c12 := range_cellT hrg 12 (.string m_ce) (by rw [HML.out]; rfl)
    have c34 := range_cellT hrg 34 (.int .u64 (m_ht : Int)) (by rw [HML.out]; rfl)
    have c45 := range_cellT hrg 45 (.int .i64 m_pf_n) (by rw [HML.out]; rfl)
    have c46 := range_cellT hrg 46 (.slice Am_vpf m_pf_l.length Cm_vpf) (by rw [HML.out]; rfl)
    have cnw := blk_cell m3 2
    clear m3 hrg b5
    go_enter Tryz.func39, Tryz.ntmps39
    go_wp2_with (first
      | (with_reducible refine at_load 46 ?_; refine wpList_load_mid rfl 46 (.tmp 16) rfl w.heap.size 4 rfl ML _ HRG3.out Tryz.underlying46 rfl HINF.out ?_)
      | (with_reducible refine at_store 46 ?_; refine wpList_store_mid rfl 46 (.tmp 5) (.tmp 17) rfl (w.heap.size + 1) 0 ML.toArray rfl rfl HTH.out (by have := HINF.out; simpa using this) HONE.out ?_))
    try simp only [List.toList_toArray]
    have b5 := HM.out.2.2
    clear ckd c11 c12 c34 c45 c46 cnw
    generalize (((w.alloc (.cells ((.int .i64 x_on :: .int .u64 (x_self : Int) :: .int .u64 (x_now : Int) :: .string x_sg :: [.int .i64 11, .string m_to, .string m_dn, .int .u64 (m_am.a : Int), .int .u64 (m_am.b : Int), .int .u64 (m_am.c : Int), .int .u64 (m_am.d : Int), .string m_cl, .string m_cc, .string m_cn, .string m_cd, .string m_ch, .string m_ce, .string m_po, .string m_pe, .string m_ve, .bool m_od, .string m_h_ch, .int .u64 (m_h_ht : Int), .int .u64 (m_h_tm : Int), .slice Am_h_vr m_h_rt.length Cm_h_vr, .slice Am_h_vv m_h_va.length Cm_h_vv, .slice Am_h_vn m_h_nx.length Cm_h_vn, .string m_o_ch, .int .u64 (m_o_ht : Int), .int .u64 (m_o_tm : Int), .slice Am_o_vr m_o_rt.length Cm_o_vr, .slice Am_o_vv m_o_va.length Cm_o_vv, .slice Am_o_vn m_o_nx.length Cm_o_vn, .slice Am_vs1 m_s1.length Cm_vs1, .slice Am_vs2 m_s2.length Cm_vs2, .slice Am_vs3 m_s3.length Cm_vs3, .slice Am_vt1 m_t1.length Cm_vt1, .slice Am_vt2 m_t2.length Cm_vt2, .int .u64 (m_ht : Int), .int .u64 (m_tm : Int), .int .u64 (m_at_ : Int), .int .u64 (m_per : Int), .string m_pk_src, .string m_pk_dst, .int .u64 (m_pk_seq : Int), .slice Am_pk_vd m_pk_da.length Cm_pk_vd, .int .u64 (m_pk_ht : Int), .int .u64 (m_pk_tm : Int), .slice Am_vak m_ak.length Cm_vak, .int .i64 m_pf_n, .slice Am_vpf m_pf_l.length Cm_vpf, .int .u64 (m_nx : Int), .string m_pay_d, .int .u64 (m_pay_x.a : Int), .int .u64 (m_pay_x.b : Int), .int .u64 (m_pay_x.c : Int), .int .u64 (m_pay_x.d : Int), .int .u64 (m_pay_y.a : Int), .int .u64 (m_pay_y.b : Int), .int .u64 (m_pay_y.c : Int), .int .u64 (m_pay_y.d : Int), .int .u64 (m_pay_z.a : Int), .int .u64 (m_pay_z.b : Int), .int .u64 (m_pay_z.c : Int), .int .u64 (m_pay_z.d : Int), .slice Am_vos m_os.length Cm_vos]).toArray) 48)).alloc (.cells #[.int .i64 0, .string ⟨#[]⟩, .string ⟨#[]⟩, .int .u64 0, .int .u64 0, .int .u64 0, .int .u64 0, .string ⟨#[]⟩, .string ⟨#[]⟩, .string ⟨#[]⟩, .string ⟨#[]⟩, .string ⟨#[]⟩, .string ⟨#[]⟩, .string ⟨#[]⟩, .string ⟨#[]⟩, .string ⟨#[]⟩, .bool false, .string ⟨#[]⟩, .int .u64 0, .int .u64 0, .slice none 0 0, .slice none 0 0, .slice none 0 0, .string ⟨#[]⟩, .int .u64 0, .int .u64 0, .slice none 0 0, .slice none 0 0, .slice none 0 0, .slice none 0 0, .slice none 0 0, .slice none 0 0, .slice none 0 0, .slice none 0 0, .int .u64 0, .int .u64 0, .int .u64 0, .int .u64 0, .string ⟨#[]⟩, .string ⟨#[]⟩, .int .u64 0, .slice none 0 0, .int .u64 0, .int .u64 0, .slice none 0 0, .int .i64 0, .slice none 0 0, .int .u64 0, .string ⟨#[]⟩, .int .u64 0, .int .u64 0, .int .u64 0, .int .u64 0, .int .u64 0, .int .u64 0, .int .u64 0, .int .u64 0, .int .u64 0, .int .u64 0, .int .u64 0, .int .u64 0, .slice none 0 0] 46)).setCells (w.heap.size + 1) 0 ML) = W2 at *
    refine (H11.out _ b5 _ _ rfl).mono ?_
    rintro e w1 ⟨rfl, A1, hk1⟩
    have hkf := (Kept.of_belowX b5).transX hk1
    clear H11 HM b5 hk1 HRG3 HTH HONE
    go_wp2_with fail
    go_ret
    exact ⟨by rw [HU2.out.1]; rfl, by rw [HU2.out.2]; exact A1, hkf⟩
  have HU21 := Lib.hid (HU20.out.trans (if_neg k11))
  clear HU20 H11
  by_cases k12 : m_kd = 12
  · have HU2 := Lib.hid (Prod.mk.inj (HU21.out.trans (if_pos k12)))
    subst k12
    clear HU21 H13 H14 HUP
    obtain ⟨m3, hrg, b5⟩ := HM.out
    have ckd := range_cellT hrg 0 (.int .i64 12) (by rw [HML.out]; rfl)
    have c11 := range_cellT hrg 11 (.string m_ch) (by rw [HML.out]; rfl)
    have c34 := range_cellT hrg 34 (.int .u64 (m_ht : Int)) (by rw [HML.out]; rfl)
    have c45 := range_cellT hrg 45 (.int .i64 m_pf_n) (by rw [HML.out]; rfl)
    have c46 := range_cellT hrg 46 (.slice Am_vpf m_pf_l.length Cm_vpf) (by rw [HML.out]; rfl)
    have cnw := blk_cell m3 2
    clear m3 hrg b5
    go_enter Tryz.func39, Tryz.ntmps39
    go_wp2_with (first
      | (with_reducible refine at_load 46 ?_; refine wpList_load_mid rfl 46 (.tmp 16) rfl w.heap.size 4 rfl ML _ HRG3.out Tryz.underlying46 rfl HINF.out ?_)
      | (with_reducible refine at_store 46 ?_; refine wpList_store_mid rfl 46 (.tmp 5) (.tmp 17) rfl (w.heap.size + 1) 0 ML.toArray rfl rfl HTH.out (by have := HINF.out; simpa using this) HONE.out ?_))
    try simp only [List.toList_toArray]
    have b5 := HM.out.2.2
    clear ckd c11 c34 c45 c46 cnw
    generalize (((w.alloc (.cells ((.int .i64 x_on :: .int .u64 (x_self : Int) :: .int .u64 (x_now : Int) :: .string x_sg :: [.int .i64 12, .string m_to, .string m_dn, .int .u64 (m_am.a : Int), .int .u64 (m_am.b : Int), .int .u64 (m_am.c : Int), .int .u64 (m_am.d : Int), .string m_cl, .string m_cc, .string m_cn, .string m_cd, .string m_ch, .string m_ce, .string m_po, .string m_pe, .string m_ve, .bool m_od, .string m_h_ch, .int .u64 (m_h_ht : Int), .int .u64 (m_h_tm : Int), .slice Am_h_vr m_h_rt.length Cm_h_vr, .slice Am_h_vv m_h_va.length Cm_h_vv, .slice Am_h_vn m_h_nx.length Cm_h_vn, .string m_o_ch, .int .u64 (m_o_ht : Int), .int .u64 (m_o_tm : Int), .slice Am_o_vr m_o_rt.length Cm_o_vr, .slice Am_o_vv m_o_va.length Cm_o_vv, .slice Am_o_vn m_o_nx.length Cm_o_vn, .slice Am_vs1 m_s1.length Cm_vs1, .slice Am_vs2 m_s2.length Cm_vs2, .slice Am_vs3 m_s3.length Cm_vs3, .slice Am_vt1 m_t1.length Cm_vt1, .slice Am_vt2 m_t2.length Cm_vt2, .int .u64 (m_ht : Int), .int .u64 (m_tm : Int), .int .u64 (m_at_ : Int), .int .u64 (m_per : Int), .string m_pk_src, .string m_pk_dst, .int .u64 (m_pk_seq : Int), .slice Am_pk_vd m_pk_da.length Cm_pk_vd, .int .u64 (m_pk_ht : Int), .int .u64 (m_pk_tm : Int), .slice Am_vak m_ak.length Cm_vak, .int .i64 m_pf_n, .slice Am_vpf m_pf_l.length Cm_vpf, .int .u64 (m_nx : Int), .string m_pay_d, .int .u64 (m_pay_x.a : Int), .int .u64 (m_pay_x.b : Int), .int .u64 (m_pay_x.c : Int), .int .u64 (m_pay_x.d : Int), .int .u64 (m_pay_y.a : Int), .int .u64 (m_pay_y.b : Int), .int .u64 (m_pay_y.c : Int), .int .u64 (m_pay_y.d : Int), .int .u64 (m_pay_z.a : Int), .int .u64 (m_pay_z.b : Int), .int .u64 (m_pay_z.c : Int), .int .u64 (m_pay_z.d : Int), .slice Am_vos m_os.length Cm_vos]).toArray) 48)).alloc (.cells #[.int .i64 0, .string ⟨#[]⟩, .string ⟨#[]⟩, .int .u64 0, .int .u64 0, .int .u64 0, .int .u64 0, .string ⟨#[]⟩, .string ⟨#[]⟩, .string ⟨#[]⟩, .string ⟨#[]⟩, .string ⟨#[]⟩, .string ⟨#[]⟩, .string ⟨#[]⟩, .string ⟨#[]⟩, .string ⟨#[]⟩, .bool false, .string ⟨#[]⟩, .int .u64 0, .int .u64 0, .slice none 0 0, .slice none 0 0, .slice none 0 0, .string ⟨#[]⟩, .int .u64 0, .int .u64 0, .slice none 0 0, .slice none 0 0, .slice none 0 0, .slice none 0 0, .slice none 0 0, .slice none 0 0, .slice none 0 0, .slice none 0 0, .int .u64 0, .int .u64 0, .int .u64 0, .int .u64 0, .string ⟨#[]⟩, .string ⟨#[]⟩, .int .u64 0, .slice none 0 0, .int .u64 0, .int .u64 0, .slice none 0 0, .int .i64 0, .slice none 0 0, .int .u64 0, .string ⟨#[]⟩, .int .u64 0, .int .u64 0, .int .u64 0, .int .u64 0, .int .u64 0, .int .u64 0, .int .u64 0, .int .u64 0, .int .u64 0, .int .u64 0, .int .u64 0, .int .u64 0, .slice none 0 0] 46)).setCells (w.heap.size + 1) 0 ML) = W2 at *
    refine (H12.out _ b5 _ _ rfl).mono ?_
    rintro e w1 ⟨rfl, A1, hk1⟩
    have hkf := (Kept.of_belowX b5).transX hk1
    clear H12 HM b5 hk1 HRG3 HTH HONE
    go_wp2_with fail
    go_ret
    exact ⟨by rw [HU2.out.1]; rfl, by rw [HU2.out.2]; exact A1, hkf⟩
  have HU22 := Lib.hid (HU21.out.trans (if_neg k12))
  clear HU21 H12
  by_cases k13 : m_kd = 13
  · have HU2 := Lib.hid (Prod.mk.inj (HU22.out.trans (if_pos k13)))
    subst k13
    clear HU22 H14 HUP
    obtain ⟨m3, hrg, b5⟩ := HM.out
    have ckd := range_cellT hrg 0 (.int .i64 13) (by rw [HML.out]; rfl)
    have c11 := range_cellT hrg 11 (.string m_ch) (by rw [HML.out]; rfl)
    clear m3 hrg b5
    go_enter Tryz.func39, Tryz.ntmps39
    go_wp2_with (first
      | (with_reducible refine at_load 46 ?_; refine wpList_load_mid rfl 46 (.tmp 16) rfl w.heap.size 4 rfl ML _ HRG3.out Tryz.underlying46 rfl HINF.out ?_)
      | (with_reducible refine at_store 46 ?_; refine wpList_store_mid rfl 46 (.tmp 5) (.tmp 17) rfl (w.heap.size + 1) 0 ML.toArray rfl rfl HTH.out (by have := HINF.out; simpa using this) HONE.out ?_))
    try simp only [List.toList_toArray]
    have b5 := HM.out.2.2
    clear ckd c11
    generalize (((w.alloc (.cells ((.int .i64 x_on :: .int .u64 (x_self : Int) :: .int .u64 (x_now : Int) :: .string x_sg :: [.int .i64 13, .string m_to, .string m_dn, .int .u64 (m_am.a : Int), .int .u64 (m_am.b : Int), .int .u64 (m_am.c : Int), .int .u64 (m_am.d : Int), .string m_cl, .string m_cc, .string m_cn, .string m_cd, .string m_ch, .string m_ce, .string m_po, .string m_pe, .string m_ve, .bool m_od, .string m_h_ch, .int .u64 (m_h_ht : Int), .int .u64 (m_h_tm : Int), .slice Am_h_vr m_h_rt.length Cm_h_vr, .slice Am_h_vv m_h_va.length Cm_h_vv, .slice Am_h_vn m_h_nx.length Cm_h_vn, .string m_o_ch, .int .u64 (m_o_ht : Int), .int .u64 (m_o_tm : Int), .slice Am_o_vr m_o_rt.length Cm_o_vr, .slice Am_o_vv m_o_va.length Cm_o_vv, .slice Am_o_vn m_o_nx.length Cm_o_vn, .slice Am_vs1 m_s1.length Cm_vs1, .slice Am_vs2 m_s2.length Cm_vs2, .slice Am_vs3 m_s3.length Cm_vs3, .slice Am_vt1 m_t1.length Cm_vt1, .slice Am_vt2 m_t2.length Cm_vt2, .int .u64 (m_ht : Int), .int .u64 (m_tm : Int), .int .u64 (m_at_ : Int), .int .u64 (m_per : Int), .string m_pk_src, .string m_pk_dst, .int .u64 (m_pk_seq : Int), .slice Am_pk_vd m_pk_da.length Cm_pk_vd, .int .u64 (m_pk_ht : Int), .int .u64 (m_pk_tm : Int), .slice Am_vak m_ak.length Cm_vak, .int .i64 m_pf_n, .slice Am_vpf m_pf_l.length Cm_vpf, .int .u64 (m_nx : Int), .string m_pay_d, .int .u64 (m_pay_x.a : Int), .int .u64 (m_pay_x.b : Int), .int .u64 (m_pay_x.c : Int), .int .u64 (m_pay_x.d : Int), .int .u64 (m_pay_y.a : Int), .int .u64 (m_pay_y.b : Int), .int .u64 (m_pay_y.c : Int), .int .u64 (m_pay_y.d : Int), .int .u64 (m_pay_z.a : Int), .int .u64 (m_pay_z.b : Int), .int .u64 (m_pay_z.c : Int), .int .u64 (m_pay_z.d : Int), .slice Am_vos m_os.length Cm_vos]).toArray) 48)).alloc (.cells #[.int .i64 0, .string ⟨#[]⟩, .string ⟨#[]⟩, .int .u64 0, .int .u64 0, .int .u64 0, .int .u64 0, .string ⟨#[]⟩, .string ⟨#[]⟩, .string ⟨#[]⟩, .string ⟨#[]⟩, .string ⟨#[]⟩, .string ⟨#[]⟩, .string ⟨#[]⟩, .string ⟨#[]⟩, .string ⟨#[]⟩, .bool false, .string ⟨#[]⟩, .int .u64 0, .int .u64 0, .slice none 0 0, .slice none 0 0, .slice none 0 0, .string ⟨#[]⟩, .int .u64 0, .int .u64 0, .slice none 0 0, .slice none 0 0, .slice none 0 0, .slice none 0 0, .slice none 0 0, .slice none 0 0, .slice none 0 0, .slice none 0 0, .int .u64 0, .int .u64 0, .int .u64 0, .int .u64 0, .string ⟨#[]⟩, .string ⟨#[]⟩, .int .u64 0, .slice none 0 0, .int .u64 0, .int .u64 0, .slice none 0 0, .int .i64 0, .slice none 0 0, .int .u64 0, .string ⟨#[]⟩, .int .u64 0, .int .u64 0, .int .u64 0, .int .u64 0, .int .u64 0, .int .u64 0, .int .u64 0, .int .u64 0, .int .u64 0, .int .u64 0, .int .u64 0, .int .u64 0, .slice none 0 0] 46)).setCells (w.heap.size + 1) 0 ML) = W2 at *
    refine (H13.out _ b5).mono ?_
    rintro e w1 ⟨rfl, A1, hk1⟩
    have hkf := (Kept.of_belowX b5).transX hk1
    clear H13 HM b5 hk1 HRG3 HTH HONE
    go_wp2_with fail
    go_ret
    exact ⟨by rw [HU2.out.1]; rfl, by rw [HU2.out.2]; exact A1, hkf⟩
  have HU23 := Lib.hid (HU22.out.trans (if_neg k13))
  clear HU22 H13
  by_cases k14 : m_kd = 14
  · have HU2 := Lib.hid (Prod.mk.inj (HU23.out.trans (if_pos k14)))
    subst k14
    clear HU23  HUP
    obtain ⟨m3, hrg, b5⟩ := HM.out
    have ckd := range_cellT hrg 0 (.int .i64 14) (by rw [HML.out]; rfl)
    have c11 := range_cellT hrg 11 (.string m_ch) (by rw [HML.out]; rfl)
    have c34 := range_cellT hrg 34 (.int .u64 (m_ht : Int)) (by rw [HML.out]; rfl)
    have c45 := range_cellT hrg 45 (.int .i64 m_pf_n) (by rw [HML.out]; rfl)
    have c46 := range_cellT hrg 46 (.slice Am_vpf m_pf_l.length Cm_vpf) (by rw [HML.out]; rfl)
    have cnw := blk_cell m3 2
    clear m3 hrg b5
    go_enter Tryz.func39, Tryz.ntmps39
    go_wp2_with (first
      | (with_reducible refine at_load 46 ?_; refine wpList_load_mid rfl 46 (.tmp 16) rfl w.heap.size 4 rfl ML _ HRG3.out Tryz.underlying46 rfl HINF.out ?_)
      | (with_reducible refine at_store 46 ?_; refine wpList_store_mid rfl 46 (.tmp 5) (.tmp 17) rfl (w.heap.size + 1) 0 ML.toArray rfl rfl HTH.out (by have := HINF.out; simpa using this) HONE.out ?_))
    try simp only [List.toList_toArray]
    have b5 := HM.out.2.2
    clear ckd c11 c34 c45 c46 cnw
    generalize (((w.alloc (.cells ((.int .i64 x_on :: .int .u64 (x_self : Int) :: .int .u64 (x_now : Int) :: .string x_sg :: [.int .i64 14, .string m_to, .string m_dn, .int .u64 (m_am.a : Int), .int .u64 (m_am.b : Int), .int .u64 (m_am.c : Int), .int .u64 (m_am.d : Int), .string m_cl, .string m_cc, .string m_cn, .string m_cd, .string m_ch, .string m_ce, .string m_po, .string m_pe, .string m_ve, .bool m_od, .string m_h_ch, .int .u64 (m_h_ht : Int), .int .u64 (m_h_tm : Int), .slice Am_h_vr m_h_rt.length Cm_h_vr, .slice Am_h_vv m_h_va.length Cm_h_vv, .slice Am_h_vn m_h_nx.length Cm_h_vn, .string m_o_ch, .int .u64 (m_o_ht : Int), .int .u64 (m_o_tm : Int), .slice Am_o_vr m_o_rt.length Cm_o_vr, .slice Am_o_vv m_o_va.length Cm_o_vv, .slice Am_o_vn m_o_nx.length Cm_o_vn, .slice Am_vs1 m_s1.length Cm_vs1, .slice Am_vs2 m_s2.length Cm_vs2, .slice Am_vs3 m_s3.length Cm_vs3, .slice Am_vt1 m_t1.length Cm_vt1, .slice Am_vt2 m_t2.length Cm_vt2, .int .u64 (m_ht : Int), .int .u64 (m_tm : Int), .int .u64 (m_at_ : Int), .int .u64 (m_per : Int), .string m_pk_src, .string m_pk_dst, .int .u64 (m_pk_seq : Int), .slice Am_pk_vd m_pk_da.length Cm_pk_vd, .int .u64 (m_pk_ht : Int), .int .u64 (m_pk_tm : Int), .slice Am_vak m_ak.length Cm_vak, .int .i64 m_pf_n, .slice Am_vpf m_pf_l.length Cm_vpf, .int .u64 (m_nx : Int), .string m_pay_d, .int .u64 (m_pay_x.a : Int), .int .u64 (m_pay_x.b : Int), .int .u64 (m_pay_x.c : Int), .int .u64 (m_pay_x.d : Int), .int .u64 (m_pay_y.a : Int), .int .u64 (m_pay_y.b : Int), .int .u64 (m_pay_y.c : Int), .int .u64 (m_pay_y.d : Int), .int .u64 (m_pay_z.a : Int), .int .u64 (m_pay_z.b : Int), .int .u64 (m_pay_z.c : Int), .int .u64 (m_pay_z.d : Int), .slice Am_vos m_os.length Cm_vos]).toArray) 48)).alloc (.cells #[.int .i64 0, .string ⟨#[]⟩, .string ⟨#[]⟩, .int .u64 0, .int .u64 0, .int .u64 0, .int .u64 0, .string ⟨#[]⟩, .string ⟨#[]⟩, .string ⟨#[]⟩, .string ⟨#[]⟩, .string ⟨#[]⟩, .string ⟨#[]⟩, .string ⟨#[]⟩, .string ⟨#[]⟩, .string ⟨#[]⟩, .bool false, .string ⟨#[]⟩, .int .u64 0, .int .u64 0, .slice none 0 0, .slice none 0 0, .slice none 0 0, .string ⟨#[]⟩, .int .u64 0, .int .u64 0, .slice none 0 0, .slice none 0 0, .slice none 0 0, .slice none 0 0, .slice none 0 0, .slice none 0 0, .slice none 0 0, .slice none 0 0, .int .u64 0, .int .u64 0, .int .u64 0, .int .u64 0, .string ⟨#[]⟩, .string ⟨#[]⟩, .int .u64 0, .slice none 0 0, .int .u64 0, .int .u64 0, .slice none 0 0, .int .i64 0, .slice none 0 0, .int .u64 0, .string ⟨#[]⟩, .int .u64 0, .int .u64 0, .int .u64 0, .int .u64 0, .int .u64 0, .int .u64 0, .int .u64 0, .int .u64 0, .int .u64 0, .int .u64 0, .int .u64 0, .int .u64 0, .slice none 0 0] 46)).setCells (w.heap.size + 1) 0 ML) = W2 at *
    refine (H14.out _ b5 _ _ rfl).mono ?_
    rintro e w1 ⟨rfl, A1, hk1⟩
    have hkf := (Kept.of_belowX b5).transX hk1
    clear H14 HM b5 hk1 HRG3 HTH HONE
    go_wp2_with fail
    go_ret
    exact ⟨by rw [HU2.out.1]; rfl, by rw [HU2.out.2]; exact A1, hkf⟩
  have HU24 := Lib.hid (HU23.out.trans (if_neg k14))
  clear HU23 H14
  have HU2 := Lib.hid (Prod.mk.inj HU24.out)
  clear HU24
  have ckd := range_cellT HM.out.2.1 0 (.int .i64 m_kd) (by rw [HML.out]; rfl)
  go_enter Tryz.func39, Tryz.ntmps39
  go_wp2_with (first
    | (with_reducible refine at_load 46 ?_; refine wpList_load_mid rfl 46 (.tmp 16) rfl w.heap.size 4 rfl ML _ HRG3.out Tryz.underlying46 rfl HINF.out ?_)
    | (with_reducible refine at_store 46 ?_; refine wpList_store_mid rfl 46 (.tmp 5) (.tmp 17) rfl (w.heap.size + 1) 0 ML.toArray rfl rfl HTH.out (by have := HINF.out; simpa using this) HONE.out ?_))
  try simp only [List.toList_toArray]
  obtain ⟨m3, m5, b5⟩ := HM.out
  go_ret
  exact ⟨by rw [HU2.out.1]; rfl, by rw [HU2.out.2]; exact (HUP.out _ b5).more (by omega), Kept.of_belowX b5⟩
end Go.Proofs.YtmphegeiclgjbaaGreatDoor
