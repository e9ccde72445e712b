/- Texts joined: ClnG1, ClnM5, CnnA, CnnF, CnM, CnS, CnR, ChM, ChS0, ChnL1, OpenB0, OpenG1, OpenCh, OpenM0, OpenSt. -/
import Derived.Test.YtpcoonnfaoakhaaGreatDoorShfF
import Derived.Test.YtpcoonnfaoakhaaGreatDoorM15
import Derived.Lib.ItoaMem
import Derived.Lib.Walk
import Derived.WalkKit
import Derived.Test.YtpcoonnfaoakhaaGreatDoorM21
import Derived.Test.YtpcoonnfaoakhaaGreatDoorM23
import Derived.Deep.MidRow
import Derived.Test.YtpcoonnfaoakhaaGreatDoorM12
import Derived.Test.YtpcoonnfaoakhaaGreatDoorRows
import Derived.Lib.LaidTab
import Derived.Deep.DeepHandedRow
import Derived.LaidSub
import Derived.Test.YtpcoonnfaoakhaaGreatDoorM20
import Derived.Test.YtpcoonnfaoakhaaGreatDoorM18
import Derived.Test.YtpcoonnfaoakhaaGreatDoorM01
import Derived.ProofKit
import Derived.OpenShut
import Derived.ShutString
import Derived.JoinedCond
import Derived.Deep.Slices
import Derived.Deep.Fields
import Derived.Carry
import Derived.Test.YtpcoonnfaoakhaaGreatDoorM02
import Derived.Laws.IdiomArrays
import Derived.Test.YtpcoonnfaoakhaaGreatDoorM06
import Derived.Deep.Grids
import Derived.Test.YtpcoonnfaoakhaaGreatDoorM08
import Derived.Deep.Strs
namespace Go.Proofs.YtpcoonnfaoakhaaGreatDoor
set_option maxRecDepth 100000
open Go Go.RowKit
set_option linter.unusedVariables false

end Go.Proofs.YtpcoonnfaoakhaaGreatDoor
namespace Go.Proofs.YtpcoonnfaoakhaaGreatDoor
set_option maxRecDepth 100000
open Go Go.RowKit
set_option linter.unusedVariables false

theorem tab_kept {w w' : World} {name : String} {k : IntKind} {zs : List Int} (h : Lib.TabIs Tryz.prog w name k zs) (hk : Kept w w') : Lib.TabIs Tryz.prog w' name k zs := by
  unfold Lib.TabIs World.var? at *
  cases hg : Tryz.prog.globalNamed name with
  | none => simp [hg] at h
  | some g =>
    simp only [hg, Option.bind_some] at h ⊢
    cases ho : w.heap[g]? with
    | none => rw [ho] at h; simp at h
    | some o =>
      cases o with
      | cells cs t fr => rw [hk.blockP ho]; rw [ho] at h; exact h
      | _ => rw [ho] at h; simp at h
/-- the table of the powers of ten -/
def Pows (w : World) : Prop := Lib.TabIs Tryz.prog w "internal/strconv.uint64pow10" .u64 Lib.pow10Tab
theorem Pows.kept {w w' : World} (h : Pows w) (hk : Kept w w') : Pows w' := tab_kept h hk
end Go.Proofs.YtpcoonnfaoakhaaGreatDoor
namespace Go.Proofs.YtpcoonnfaoakhaaGreatDoor
set_option maxRecDepth 100000
open Go Go.RowKit
set_option linter.unusedVariables false

def absentE (R : List Pr) (id : ByteArray) (ht now : Nat) (key : ByteArray) (p : Pf) : Int :=
  if (showM R id ht now).2 = 0 then (if absentB (showM R id ht now).1 key p = true then 0 else 61) else (showM R id ht now).2
/-! ### what a message says -/
theorem LeavesV.form {w : World} {B : Nat} {v : Value} {ls : List Lf} (h : LeavesV w B v ls) : ∃ A c, v = .slice A ls.length c := by obtain ⟨A, c, h, _⟩ := h; exact ⟨A, c, h⟩
theorem OrdsAt.form {w : World} {v : Value} {ls : List OrdV} (h : OrdsAt w v ls) : ∃ A c, v = .slice A ls.length c := by obtain ⟨A, c, h, _⟩ := h; exact ⟨A, c, h⟩
def nwOf (m : MsgV) : NwW := ⟨m.h, m.vs1, m.s1, m.vs3, m.s3, m.vt1, m.t1, m.at_⟩
def nw2Of (m : MsgV) : NwW := ⟨m.o, m.vs2, m.s2, m.vs3, m.s3, m.vt2, m.t2, m.at_⟩
/-! ### two stores, side by side -/
structure Sts (w : World) (b m b' m' : Nat) (R R' : List Pr) (N : Nat) (Z : World) : Prop where
  a : ∃ n f, n ≤ N ∧ PileS Z [⟨b, m, n, f⟩] ∧ SeenL ⟨#[]⟩ [⟨b, m, n, f⟩] R
  c : ∃ n f, n ≤ N ∧ PileS Z [⟨b', m', n, f⟩] ∧ SeenL ⟨#[]⟩ [⟨b', m', n, f⟩] R'
  ne : m ≠ m'
  lo : w.heap.size ≤ m
  lo' : w.heap.size ≤ m'
  bel : Below w.heap.size w Z
section
variable {w Z Z' : World} {b m b' m' N k : Nat} {R R' R2 : List Pr}
theorem Sts.swap (h : Sts w b m b' m' R R' N Z) : Sts w b' m' b m R' R N Z := ⟨h.c, h.a, h.ne.symm, h.lo', h.lo, h.bel⟩
theorem Sts.up (h : Sts w b m b' m' R R' N Z) (hb : Below Z.heap.size Z Z') : Sts w b m b' m' R R' N Z' := by
  obtain ⟨n, f, h1, h2, h3⟩ := h.a
  obtain ⟨n', f', k1, k2, k3⟩ := h.c
  exact ⟨⟨n, f, h1, h2.up hb, h3⟩, ⟨n', f', k1, k2.up hb, k3⟩, h.ne, h.lo, h.lo', h.bel.trans (hb.mono h.bel.size)⟩
theorem Sts.more {N' : Nat} (h : Sts w b m b' m' R R' N Z) (hN : N ≤ N') : Sts w b m b' m' R R' N' Z := by
  obtain ⟨n, f, h1, h2, h3⟩ := h.a
  obtain ⟨n', f', k1, k2, k3⟩ := h.c
  exact ⟨⟨n, f, by omega, h2, h3⟩, ⟨n', f', by omega, k2, k3⟩, h.ne, h.lo, h.lo', h.bel⟩
theorem Sts.at (h : Sts w b m b' m' R R' N Z) : ∃ n f, n ≤ N ∧ At Z ⟨b, m, n, f⟩ [] R 0 Z := by
  obtain ⟨n, f, h1, h2, h3⟩ := h.a
  exact ⟨n, f, h1, BankS.refl h2 h3, h2⟩
theorem Sts.step {n : Nat} {f : LF} (h : Sts w b m b' m' R R' N Z) (hn : n ≤ N) (A : At Z ⟨b, m, n, f⟩ [] R2 k Z') : Sts w b m b' m' R2 R' (N + k) Z' := by
  obtain ⟨n', f', h1, h2, h3, h4⟩ := A.b
  obtain ⟨n2, f2, k1, k2, k3⟩ := h.c
  dsimp only at h1 h2 h3 h4
  refine ⟨⟨n', f', by omega, h1, h2⟩, ⟨n2, f2, by omega, ?_, k3⟩, h.ne, h.lo, h.lo', h.bel.trans (A.below (B := w.heap.size) h.lo h.bel.size)⟩
  exact k2.chg h4 A.p.1.maps fun z hz e => by
    rw [List.mem_singleton.1 hz] at e
    exact h.ne e.symm
theorem Sts.rise (h : Sts w b m b' m' R R' N Z) : Rise R := by obtain ⟨n, f, h1, h2, h3⟩ := h.a; exact h3.rise
end
end Go.Proofs.YtpcoonnfaoakhaaGreatDoor
namespace Go.Proofs.YtpcoonnfaoakhaaGreatDoor
set_option maxRecDepth 100000
open Go Go.RowKit
set_option linter.unusedVariables false

section
variable {w Z Z' : World} {b m b' m' N g : Nat} {R R' : List Pr} {cs : Array Value} {t : TypeId}
theorem Sts.made {w w1 w2 : World} {y1 y2 : Lyr} {ps1 ps2 : List Pr} (hb1 : Below w.heap.size w w1) (hm1 : w.heap.size ≤ y1.m) (hp1 : PileS w1 [y1]) (hl1 : LyrIs ps1 y1) (hr1 : Rise ps1) (hs1 : ∀ p ∈ ps1, p.1.size ≤ maxLen) (e1 : y1.n = ps1.length) (l1 : ps1.length ≤ N)
    (hb2 : Below w1.heap.size w1 w2) (hm2 : w1.heap.size ≤ y2.m) (hp2 : PileS w2 [y2]) (hl2 : LyrIs ps2 y2) (hr2 : Rise ps2) (hs2 : ∀ p ∈ ps2, p.1.size ≤ maxLen) (e2 : y2.n = ps2.length) (l2 : ps2.length ≤ N) : Sts w y1.b y1.m y2.b y2.m ps1 ps2 N w2 := by
  have A1 := At.made hp1 hl1 hr1 hs1
  have A2 := At.made hp2 hl2 hr2 hs2
  obtain ⟨n, f, h1, h2, h3, h4⟩ := A1.b
  obtain ⟨n', f', k1, k2, k3, k4⟩ := A2.b
  have hlt := (hp1.lt y1 (by simp)).2
  exact ⟨⟨n, f, by omega, h1.up hb2, h2⟩, ⟨n', f', by omega, k1, k2⟩, by omega, hm1, Nat.le_trans hb1.size hm2, hb1.trans (hb2.mono hb1.size)⟩
end
end Go.Proofs.YtpcoonnfaoakhaaGreatDoor
namespace Go.Proofs.YtpcoonnfaoakhaaGreatDoor
set_option maxRecDepth 100000
open Go Go.RowKit
set_option linter.unusedVariables false

def hdOf (h : HdW) : HdV := ⟨h.ch, h.ht, h.tm, h.rt, h.va, h.nx⟩
def stepM14 (R : List Pr) (x : StepV) : Int × List Pr :=
  if x.m.kd = 2 then (createE (hdOf x.m.h) x.m.per x.now, if createE (hdOf x.m.h) x.m.per x.now = 0 then createR R (hdOf x.m.h) x.m.per else R)
  else if x.m.kd = 3 then updM R x.m.cl (nwOf x.m) x.now
  else if x.m.kd = 4 then misM R x.m.cl (nwOf x.m) (nw2Of x.m) x.now
  else (83, R)
end Go.Proofs.YtpcoonnfaoakhaaGreatDoor
namespace Go.Proofs.YtpcoonnfaoakhaaGreatDoor
set_option maxRecDepth 100000
open Go Go.RowKit
set_option linter.unusedVariables false

end Go.Proofs.YtpcoonnfaoakhaaGreatDoor
namespace Go.Proofs.YtpcoonnfaoakhaaGreatDoor
set_option maxRecDepth 100000
open Go Go.RowKit
set_option linter.unusedVariables false

/-- every value fits -/
def FitR (R : List Pr) : Prop := ∀ key v, getL R key = some v → v.length ≤ 65535
theorem encB_take (m : List UInt8) (h : m.length ≤ 65535) : encS ⟨m.toArray⟩ = encB m := by
  unfold encS strBytes
  simp
theorem FitR.cons {R : List Pr} (h : FitR R) (a : ByteArray) (n : Nat) (v : List UInt8) : FitR (setL (kCons a n) v R) := fun key u e => by
  unfold setL at e
  split at e
  · next hp =>
    rw [getL_putL] at e
    split at e
    · injection e with e
      unfold pairB at hp
      simp only [Bool.and_eq_true, decide_eq_true_eq] at hp
      rw [← e]; exact hp.2
    · exact h _ _ e
  · exact h _ _ e
end Go.Proofs.YtpcoonnfaoakhaaGreatDoor
namespace Go.Proofs.YtpcoonnfaoakhaaGreatDoor
set_option maxRecDepth 100000
open Go Go.RowKit
set_option linter.unusedVariables false

/-- two stores in an array's box -/
structure LS (w : World) (b1 m1 b2 m2 g N : Nat) (Z : World) : Prop where
  s : ∃ R1 R2, Sts w b1 m1 b2 m2 R1 R2 N Z
  x : Z.cell? ⟨g, 0, none⟩ = some (.pointer (some ⟨b1, 0, none⟩))
  y : Z.cell? ⟨g, 1, none⟩ = some (.pointer (some ⟨b2, 0, none⟩))
theorem LS.bel {w Z : World} {b1 m1 b2 m2 g N : Nat} (h : LS w b1 m1 b2 m2 g N Z) : Below w.heap.size w Z := by
  obtain ⟨R1, R2, h⟩ := h.s
  exact h.bel
def gotC (o : Option ClV) : ClV := o.getD ClV.none
theorem StepV.one {w : World} (x : StepV) (hm : x.m.rd w) : x.cells.toArray.all (·.oneCell') = true := by
  obtain ⟨x_on, x_self, x_now, x_sg, ⟨m_kd, m_to, m_dn, m_am, m_cl, m_cc, m_cn, m_cd, m_ch, m_ce, m_po, m_pe, m_ve, m_od, ⟨m_h_ch, m_h_ht, m_h_tm, m_h_vr, m_h_vv, m_h_vn, m_h_rt, m_h_va, m_h_nx⟩, ⟨m_o_ch, m_o_ht, m_o_tm, m_o_vr, m_o_vv, m_o_vn, m_o_rt, m_o_va, m_o_nx⟩, m_vs1, m_s1, m_vs2, m_s2, m_vs3, m_s3, m_vt1, m_t1, m_vt2, m_t2, m_ht, m_tm, m_at_, m_per, ⟨m_pk_src, m_pk_dst, m_pk_seq, m_pk_vd, m_pk_da, m_pk_ht, m_pk_tm⟩, m_vak, m_ak, m_vpf, ⟨m_pf_n, m_pf_l⟩, m_nx, ⟨m_pay_d, m_pay_x, m_pay_y, m_pay_z⟩, m_vos, m_os⟩⟩ := x
  dsimp only at hm
  have qm_h_vr : Rd w w.heap.size m_h_vr m_h_rt := hm.r_h.r
  have qm_h_vv : Rd w w.heap.size m_h_vv m_h_va := hm.r_h.v
  have qm_h_vn : Rd w w.heap.size m_h_vn m_h_nx := hm.r_h.n
  have qm_o_vr : Rd w w.heap.size m_o_vr m_o_rt := hm.r_o.r
  have qm_o_vv : Rd w w.heap.size m_o_vv m_o_va := hm.r_o.v
  have qm_o_vn : Rd w w.heap.size m_o_vn m_o_nx := hm.r_o.n
  have qm_vs1 : ValsAt w w.heap.size m_vs1 m_s1 := hm.r_s1
  have qm_vs2 : ValsAt w w.heap.size m_vs2 m_s2 := hm.r_s2
  have qm_vs3 : ValsAt w w.heap.size m_vs3 m_s3 := hm.r_s3
  have qm_vt1 : StrsAt w w.heap.size m_vt1 m_t1 := hm.r_t1
  have qm_vt2 : StrsAt w w.heap.size m_vt2 m_t2 := hm.r_t2
  have qm_pk_vd : Rd w w.heap.size m_pk_vd m_pk_da := hm.r_pk.d
  have qm_vak : Rd w w.heap.size m_vak m_ak := hm.r_ak
  have qm_vpf : LeavesV w w.heap.size m_vpf m_pf_l := hm.r_pf
  have qm_vos : OrdsAt w m_vos m_os := hm.r_os
  obtain ⟨Am_h_vr, Cm_h_vr, rfl⟩ := qm_h_vr.form
  obtain ⟨Am_h_vv, Cm_h_vv, rfl⟩ := qm_h_vv.form
  obtain ⟨Am_h_vn, Cm_h_vn, rfl⟩ := qm_h_vn.form
  obtain ⟨Am_o_vr, Cm_o_vr, rfl⟩ := qm_o_vr.form
  obtain ⟨Am_o_vv, Cm_o_vv, rfl⟩ := qm_o_vv.form
  obtain ⟨Am_o_vn, Cm_o_vn, rfl⟩ := qm_o_vn.form
  obtain ⟨Am_vs1, Cm_vs1, rfl⟩ := qm_vs1.form
  obtain ⟨Am_vs2, Cm_vs2, rfl⟩ := qm_vs2.form
  obtain ⟨Am_vs3, Cm_vs3, rfl⟩ := qm_vs3.form
  obtain ⟨Am_vt1, Cm_vt1, rfl⟩ := qm_vt1.form
  obtain ⟨Am_vt2, Cm_vt2, rfl⟩ := qm_vt2.form
  obtain ⟨Am_pk_vd, Cm_pk_vd, rfl⟩ := qm_pk_vd.form
  obtain ⟨Am_vak, Cm_vak, rfl⟩ := qm_vak.form
  obtain ⟨Am_vpf, Cm_vpf, rfl⟩ := qm_vpf.form
  obtain ⟨Am_vos, Cm_vos, rfl⟩ := qm_vos.form
  clear qm_h_vr qm_h_vv qm_h_vn qm_o_vr qm_o_vv qm_o_vn qm_vs1 qm_vs2 qm_vs3 qm_vt1 qm_vt2 qm_pk_vd qm_vak qm_vpf qm_vos
  simp [StepV.cells, MsgV.cells, Value.oneCell']
end Go.Proofs.YtpcoonnfaoakhaaGreatDoor
namespace Go.Proofs.YtpcoonnfaoakhaaGreatDoor
set_option maxRecDepth 100000
open Go.RowKit
end Go.Proofs.YtpcoonnfaoakhaaGreatDoor
namespace Go.Proofs.YtpcoonnfaoakhaaGreatDoor
set_option maxRecDepth 100000
open Go Go.RowKit
set_option linter.unusedVariables false

def gotS (o : Option CsV) : CsV := o.getD ⟨0, [], []⟩
end Go.Proofs.YtpcoonnfaoakhaaGreatDoor
namespace Go.Proofs.YtpcoonnfaoakhaaGreatDoor
set_option maxRecDepth 100000
open Go Go.RowKit
set_option linter.unusedVariables false

end Go.Proofs.YtpcoonnfaoakhaaGreatDoor
namespace Go.Proofs.YtpcoonnfaoakhaaGreatDoor
set_option maxRecDepth 100000
open Go Go.RowKit
set_option linter.unusedVariables false

def madeCn (R : List Pr) (c : CnV) : List Pr := setL (kConn (newID R sConn)) (cnB c) (newR R sConn)
def cnBeginE (R : List Pr) (id other : ByteArray) : Int := if (getCl R id).isSome = true then (if identB other = true then 0 else 40) else 100
end Go.Proofs.YtpcoonnfaoakhaaGreatDoor
namespace Go.Proofs.YtpcoonnfaoakhaaGreatDoor
set_option maxRecDepth 100000
open Go Go.RowKit
set_option linter.unusedVariables false

def zR32 : List UInt8 := List.replicate 32 0
def fixHd : HdV := ⟨⟨#[116, 119, 111]⟩, 5, 50, zR32, zR32, zR32⟩
def sClient3 : ByteArray := ⟨#[99, 108, 105, 101, 110, 116, 45, 51]⟩
def sClient7 : ByteArray := ⟨#[99, 108, 105, 101, 110, 116, 45, 55]⟩
def sConn1 : ByteArray := ⟨#[99, 111, 110, 110, 45, 49]⟩
def sCl0 : ByteArray := ⟨#[99, 108, 105, 101, 110, 116, 45, 48]⟩
def sCo0 : ByteArray := ⟨#[99, 111, 110, 110, 45, 48]⟩
def fixC1 : List Pr := createR [] fixHd 9
def fixC2 : List Pr := madeCn fixC1 ⟨1, sCl0, sClient3, ⟨#[]⟩⟩
def CnV.cs (v : CnV) : Array Value := #[.int .u64 (v.st : Int), .string v.cl, .string v.cc, .string v.ct]
end Go.Proofs.YtpcoonnfaoakhaaGreatDoor
namespace Go.Proofs.YtpcoonnfaoakhaaGreatDoor
set_option maxRecDepth 100000
open Go Go.RowKit
set_option linter.unusedVariables false

/-! ### decimal texts -/
theorem decN_lt {u : Nat} (h : u < 10) : Lib.decDigits u = [UInt8.ofNat (48 + u)] := by rw [Lib.decDigits, dif_pos h]
theorem decN_ge {u : Nat} (h : ¬ u < 10) : Lib.decDigits u = Lib.decDigits (u / 10) ++ [UInt8.ofNat (48 + u % 10)] := by rw [Lib.decDigits, dif_neg h]
theorem decN_pos (u : Nat) : 0 < (Lib.decDigits u).length := by
  by_cases h : u < 10
  · rw [decN_lt h]; simp
  · rw [decN_ge h]; simp
theorem dig_injN {a b : Nat} (ha : a < 10) (hb : b < 10) (h : UInt8.ofNat (48 + a) = UInt8.ofNat (48 + b)) : a = b := by
  have e := congrArg UInt8.toNat h
  simp only [UInt8.toNat_ofNat'] at e
  omega
theorem dec_inj (u : Nat) : ∀ v : Nat, Lib.decDigits u = Lib.decDigits v → u = v := by
  induction u using Nat.strongRecOn with
  | ind u ih =>
    intro v h
    by_cases hu : u < 10
    · by_cases hv : v < 10
      · rw [decN_lt hu, decN_lt hv] at h
        injection h with h _
        exact dig_injN hu hv h
      · rw [decN_lt hu, decN_ge hv] at h
        have e := congrArg List.length h
        have := decN_pos (v / 10)
        simp only [List.length_append, List.length_cons, List.length_nil] at e
        omega
    · by_cases hv : v < 10
      · rw [decN_ge hu, decN_lt hv] at h
        have e := congrArg List.length h
        have := decN_pos (u / 10)
        simp only [List.length_append, List.length_cons, List.length_nil] at e
        omega
      · rw [decN_ge hu, decN_ge hv] at h
        obtain ⟨h1, h2⟩ := List.append_inj' h rfl
        have e := ih (u / 10) (by omega) _ h1
        injection h2 with h2 _
        have e2 := dig_injN (Nat.mod_lt _ (by decide)) (Nat.mod_lt _ (by decide)) h2
        omega
theorem decB_inj {u v : Nat} (h : decB u = decB v) : u = v := by
  unfold decB at h
  have e := congrArg (fun s : ByteArray => s.data.toList) h
  exact dec_inj _ _ (by simpa using e)
def idN (kind : ByteArray) (k : Nat) : ByteArray := (kind ++ dashB) ++ decB k
theorem idN_inj {kind : ByteArray} {u v : Nat} (h : idN kind u = idN kind v) : u = v := decB_inj (app_inj h)
theorem newID_idN (R : List Pr) (kind : ByteArray) : newID R kind = idN kind (numN R kind) := rfl

/-! ### keys -/
theorem kConn_list (a : ByteArray) : (kConn a).data.toList = [105, 98, 99, 47, 99, 111, 110, 110] ++ ([47] ++ a.data.toList) := by
  unfold kConn connP
  rw [dlist]
  rfl
theorem kConn_inj {a b : ByteArray} (h : kConn a = kConn b) : a = b := app_inj h
theorem cn_ne_cons (a b : ByteArray) (n : Nat) : kConn a ≠ kCons b n := fun e => by
  have e := congrArg (fun s => s.data.toList) e
  simp only [kConn_list, kCons_list] at e
  simp at e
theorem cn_ne_num (a b : ByteArray) : kConn a ≠ kNum b := fun e => by
  have e := congrArg (fun s => s.data.toList) e
  simp only [kConn_list, kNum_list] at e
  simp at e
theorem begB_of {p s : ByteArray} (r : List UInt8) (h : s.data.toList = p.data.toList ++ r) : begB p s = true := (begQ_iff _ _).2 ⟨r, h⟩
theorem conn_conn (a : ByteArray) : begB connP (kConn a) = true := begB_of a.data.toList (by unfold kConn; rw [dlist])
theorem conn_cons (a : ByteArray) (n : Nat) : begB connP (kCons a n) = false := by
  unfold begB
  rw [kCons_list]
  simp [Lib.hasPrefix, connP]
  rfl
theorem conn_num (a : ByteArray) : begB connP (kNum a) = false := by
  unfold begB
  rw [kNum_list]
  simp [Lib.hasPrefix, connP]
  rfl
theorem ibc_conn (a : ByteArray) : begB ibcP (kConn a) = true := beg_ibc _ _ (by rw [kConn_list]; rfl)

/-! ### connections' bytes -/
def CnV.ok (v : CnV) : Prop := v.st < 18446744073709551616 ∧ v.cl.size ≤ 65535 ∧ v.cc.size ≤ 65535 ∧ v.ct.size ≤ 65535
theorem readCn_ok {l : List UInt8} {c : CnV} (h : readCn l = some c) : l = cnB c ∧ c.ok := by
  unfold readCn at h
  dsimp only at h
  split at h
  · next he =>
    injection h with h
    obtain ⟨e4, h4⟩ := rEnd_zero he
    obtain ⟨e3, h3⟩ := rB_ok e4
    obtain ⟨e2, h2⟩ := rB_ok e3
    obtain ⟨e1, h1⟩ := rB_ok e2
    obtain ⟨e0, h0⟩ := rN_ok e1
    have l1 := rB_le (rN l 0).2.1 (rN l 0).2.2
    have l2 := rB_le (rB (rN l 0).2.1 (rN l 0).2.2).2.1 (rB (rN l 0).2.1 (rN l 0).2.2).2.2
    have l3 := rB_le (rB (rB (rN l 0).2.1 (rN l 0).2.2).2.1 (rB (rN l 0).2.1 (rN l 0).2.2).2.2).2.1 (rB (rB (rN l 0).2.1 (rN l 0).2.2).2.1 (rB (rN l 0).2.1 (rN l 0).2.2).2.2).2.2
    subst h
    refine ⟨?_, rN_ltP _ _, ?_, ?_, ?_⟩
    · unfold cnB
      dsimp only
      rw [encB_take _ l1, encB_take _ l2, encB_take _ l3]
      rw [h4] at h3
      rw [h3] at h2
      rw [h2] at h1
      rw [h1] at h0
      refine h0.trans ?_
      simp only [List.append_assoc, List.append_nil]
    · simpa [ByteArray.size] using l1
    · simpa [ByteArray.size] using l2
    · simpa [ByteArray.size] using l3
  · cases h
theorem strB_bytes (s : ByteArray) : (⟨(strBytes s).toArray⟩ : ByteArray) = s := by
  unfold strBytes
  exact ByteArray.ext (by simp)
theorem readCn_cnB {c : CnV} (h : c.ok) : readCn (cnB c) = some c := by
  obtain ⟨h1, h2, h3, h4⟩ := h
  obtain ⟨st, cl, cc, ct⟩ := c
  dsimp only at h1 h2 h3 h4
  unfold readCn cnB
  simp only [List.append_assoc]
  have e := rB_encQ ct h4 []
  rw [List.append_nil] at e
  rw [rN_enc _ _ h1]
  simp only
  rw [rB_encQ _ h2]
  simp only
  rw [rB_encQ _ h3]
  simp only
  rw [e]
  simp only [strB_bytes]
  rfl
theorem getCn_some {R : List Pr} {id : ByteArray} {c : CnV} (h : getCn R id = some c) : identB id = true ∧ getL R (kConn id) = some (cnB c) ∧ c.ok := by
  unfold getCn at h
  split at h
  · next hi =>
    cases hl : getL R (kConn id) with
    | none => rw [hl] at h; cases h
    | some l =>
      rw [hl] at h
      obtain ⟨h1, h2⟩ := readCn_ok (show readCn l = some c from h)
      exact ⟨hi, by rw [h1], h2⟩
  · cases h
theorem getCn_of {R : List Pr} {id : ByteArray} {c : CnV} (hi : identB id = true) (h : getL R (kConn id) = some (cnB c)) (hok : c.ok) : getCn R id = some c := by
  unfold getCn
  rw [if_pos hi, h]
  exact readCn_cnB hok

/-! ### steps -/
def cnTryE (R : List Pr) (id other cconn : ByteArray) (ht now : Nat) (p : Pf) : Int :=
  if (getCl R id).isSome = true then (if identB other = true then (if identB cconn = true then verifyE R id ht now (kConn cconn) (cnB ⟨1, other, id, ⟨#[]⟩⟩) p else 40) else 40) else 100
def gotN (o : Option CnV) : CnV := o.getD CnV.none
def cnAckE (R : List Pr) (id cconn : ByteArray) (ht now : Nat) (p : Pf) : Int :=
  if (getCn R id).isSome = true then (if (gotN (getCn R id)).st = 1 then (if identB cconn = true then verifyE R (gotN (getCn R id)).cl ht now (kConn cconn) (cnB ⟨2, (gotN (getCn R id)).cc, (gotN (getCn R id)).cl, id⟩) p else 40) else 111) else 110
def cnConE (R : List Pr) (id : ByteArray) (ht now : Nat) (p : Pf) : Int :=
  if (getCn R id).isSome = true then (if (gotN (getCn R id)).st = 2 then verifyE R (gotN (getCn R id)).cl ht now (kConn (gotN (getCn R id)).ct) (cnB ⟨3, (gotN (getCn R id)).cc, (gotN (getCn R id)).cl, id⟩) p else 111) else 110
theorem gotN_ok {R : List Pr} {id : ByteArray} : (gotN (getCn R id)).ok := by
  cases hc : getCn R id with
  | none => exact ⟨by show 0 < _; decide, by show 0 ≤ _; omega, by show 0 ≤ _; omega, by show 0 ≤ _; omega⟩
  | some c => exact (getCn_some hc).2.2
def cnBeginP (R : List Pr) (id other : ByteArray) : Int × List Pr := (cnBeginE R id other, if cnBeginE R id other = 0 then madeCn R ⟨1, id, other, ⟨#[]⟩⟩ else R)
def cnTryP (R : List Pr) (id other cconn : ByteArray) (ht now : Nat) (p : Pf) : Int × List Pr := (cnTryE R id other cconn ht now p, if cnTryE R id other cconn ht now p = 0 then madeCn R ⟨2, id, other, cconn⟩ else R)
def cnAckP (R : List Pr) (id cconn : ByteArray) (ht now : Nat) (p : Pf) : Int × List Pr := (cnAckE R id cconn ht now p, if cnAckE R id cconn ht now p = 0 then setL (kConn id) (cnB ⟨3, (gotN (getCn R id)).cl, (gotN (getCn R id)).cc, cconn⟩) R else R)
def cnConP (R : List Pr) (id : ByteArray) (ht now : Nat) (p : Pf) : Int × List Pr := (cnConE R id ht now p, if cnConE R id ht now p = 0 then setL (kConn id) (cnB ⟨3, (gotN (getCn R id)).cl, (gotN (getCn R id)).cc, (gotN (getCn R id)).ct⟩) R else R)
/-- a step of layers 14 and 15 -/
def stepM15 (R : List Pr) (x : StepV) : Int × List Pr :=
  if x.m.kd = 2 then (createE (hdOf x.m.h) x.m.per x.now, if createE (hdOf x.m.h) x.m.per x.now = 0 then createR R (hdOf x.m.h) x.m.per else R)
  else if x.m.kd = 3 then updM R x.m.cl (nwOf x.m) x.now
  else if x.m.kd = 4 then misM R x.m.cl (nwOf x.m) (nw2Of x.m) x.now
  else if x.m.kd = 5 then cnBeginP R x.m.cl x.m.cc
  else if x.m.kd = 6 then cnTryP R x.m.cl x.m.cc x.m.cd x.m.ht x.now x.m.pf
  else if x.m.kd = 7 then cnAckP R x.m.cn x.m.cd x.m.ht x.now x.m.pf
  else if x.m.kd = 8 then cnConP R x.m.cn x.m.ht x.now x.m.pf
  else (83, R)
/-! ### what steps do to connections -/
theorem only_one {R : List Pr} (hr : Rise R) {key : ByteArray} {v : List UInt8} (h : getL R key = some v) : (R.filter (fun q => decide (q.1 = key))).length = 1 := by
  induction R with
  | nil => cases h
  | cons p R ih =>
    obtain ⟨h1, h2⟩ := List.pairwise_cons.1 hr
    by_cases e : p.1 = key
    · have : R.filter (fun q => decide (q.1 = key)) = [] := List.filter_eq_nil_iff.2 fun q hq => by
        have hl := h1 q hq
        simp only [decide_eq_true_eq]
        exact fun e2 => ltS_ne hl (e.trans e2.symm)
      rw [List.filter_cons, if_pos (by simpa using e), this]
      rfl
    · rw [getL_cons, if_neg e] at h
      rw [List.filter_cons, if_neg (by simpa using e)]
      exact ih h2 h
theorem len_split {f : Pr → Bool} : ∀ (l : List Pr), l.length = (l.filter f).length + (l.filter (fun q => !f q)).length
  | [] => rfl
  | q :: l => by
    have ih := len_split (f := f) l
    cases h : f q
    · simp [List.filter_cons, h]; omega
    · simp [List.filter_cons, h]; omega
theorem lenF_old {p : ByteArray → Bool} {key : ByteArray} (hp : p key = true) {R : List Pr} (hr : Rise R) {u : List UInt8} (hn : getL R key = some u) (v : List UInt8) : ((putL (key, some v) R).filter (fun q => p q.1)).length = (R.filter (fun q => p q.1)).length := by
  have h := ((putL_perm key (some v) R).filter (fun q => p q.1)).length_eq
  rw [h]
  have h1 := only_one hr hn
  have h2 := len_split (f := fun q => decide (q.1 = key)) (R.filter (fun q => p q.1))
  have h3 : (R.filter (fun q => p q.1)).filter (fun q => decide (q.1 = key)) = R.filter (fun q => decide (q.1 = key)) := by
    rw [List.filter_filter]
    apply List.filter_congr
    intro q _
    by_cases e : q.1 = key
    · simp [e, hp]
    · simp [e]
  rw [h3, h1] at h2
  rw [h2]
  simp only [List.filter_append, List.filter_cons, List.filter_nil, hp, if_true, List.length_append, List.length_cons, List.length_nil, List.filter_filter]
  congr 2
  apply List.filter_congr
  intro q _
  exact Bool.and_comm _ _
/-- nothing of a connection, nor their number, is touched -/
structure CnSame (R R2 : List Pr) : Prop where
  cn : ∀ a, getL R2 (kConn a) = getL R (kConn a)
  nu : getL R2 (kNum sConn) = getL R (kNum sConn)
  len : (R2.filter (fun p => begB connP p.1)).length = (R.filter (fun p => begB connP p.1)).length
theorem CnSame.refl (R : List Pr) : CnSame R R := ⟨fun _ => rfl, rfl, rfl⟩
theorem CnSame.trans {R R2 R3 : List Pr} (h : CnSame R R2) (k : CnSame R2 R3) : CnSame R R3 := ⟨fun a => (k.cn a).trans (h.cn a), k.nu.trans h.nu, k.len.trans h.len⟩
theorem CnSame.cons (R : List Pr) (a : ByteArray) (n : Nat) (v : List UInt8) : CnSame R (setL (kCons a n) v R) := ⟨fun b => getL_setL_ne _ _ _ _ (cn_ne_cons _ _ _), getL_setL_ne _ _ _ _ (cons_ne_num _ _ _).symm, lenF_setNo (p := begB connP) (conn_cons _ _) _ _⟩
theorem kNum_inj {a b : ByteArray} (h : kNum a = kNum b) : a = b := app_inj h
theorem CnSame.num (R : List Pr) {k : ByteArray} (hk : k ≠ sConn) (v : List UInt8) : CnSame R (setL (kNum k) v R) := ⟨fun b => getL_setL_ne _ _ _ _ (cn_ne_num _ _), getL_setL_ne _ _ _ _ (fun e => hk (kNum_inj e).symm), lenF_setNo (p := begB connP) (conn_num _) _ _⟩
/-- connections have numbers below theirs -/
structure CnN (R : List Pr) (j : Nat) : Prop where
  num : numN R sConn ≤ j
  fresh : ∀ k, numN R sConn ≤ k → k < 18446744073709551616 → getL R (kConn (idN sConn k)) = none
theorem CnN.same {R R2 : List Pr} {j : Nat} (h : CnN R j) (s : CnSame R R2) : CnN R2 j := by
  have e : numN R2 sConn = numN R sConn := by unfold numN; rw [s.nu]
  exact ⟨by rw [e]; exact h.num, fun k h1 h2 => by rw [s.cn]; exact h.fresh k (by rw [← e]; exact h1) h2⟩
theorem CnN.more {R : List Pr} {j j' : Nat} (h : CnN R j) (hj : j ≤ j') : CnN R j' := ⟨Nat.le_trans h.num hj, h.fresh⟩
theorem sConn_size : sConn.size = 4 := rfl
theorem newR_num {R : List Pr} {j : Nat} (h : numN R sConn ≤ j) (hj : j + 1 < 18446744073709551616) : numN (newR R sConn) sConn = numN R sConn + 1 := by
  have p1 : pairB (kNum sConn, be ((numN R sConn + 1) % 18446744073709551616) 8) = true := pairB_of (by rw [kNum_size]; omega) (by rw [kNum_size, sConn_size]; decide) (by rw [be_length]; decide)
  refine numN_of (by omega) ?_
  unfold newR
  rw [getL_setL _ _ _ _ p1, if_pos rfl, Nat.mod_eq_of_lt (by omega)]
theorem madeCn_num {R : List Pr} {j : Nat} (c : CnV) (h : numN R sConn ≤ j) (hj : j + 1 < 18446744073709551616) : numN (madeCn R c) sConn = numN R sConn + 1 := by
  rw [← newR_num h hj]
  unfold numN madeCn
  rw [getL_setL_ne _ _ _ _ (cn_ne_num _ _).symm]
theorem madeCn_get {R : List Pr} {c : CnV} {a : ByteArray} (ha : a ≠ newID R sConn) : getL (madeCn R c) (kConn a) = getL R (kConn a) := by
  unfold madeCn newR
  rw [getL_setL_ne _ _ _ _ (fun e => ha (kConn_inj e)), getL_setL_ne _ _ _ _ (cn_ne_num _ _)]
theorem CnN.made {R : List Pr} {j : Nat} (h : CnN R j) (hj : j + 1 < 18446744073709551616) (c : CnV) : CnN (madeCn R c) (j + 1) := by
  have e := madeCn_num c h.num hj
  refine ⟨by rw [e]; have := h.num; omega, fun k h1 h2 => ?_⟩
  rw [madeCn_get (fun e2 => by
    rw [newID_idN] at e2
    have := idN_inj e2
    omega)]
  exact h.fresh k (by omega) h2
theorem setCn_none {R : List Pr} {id a : ByteArray} {u v : List UInt8} (h : getL R (kConn id) = some u) (ha : getL R (kConn a) = none) : getL (setL (kConn id) v R) (kConn a) = none := by
  rw [getL_setL_ne _ _ _ _ (fun e => by rw [e, h] at ha; cases ha)]
  exact ha
theorem CnN.set {R : List Pr} {j : Nat} (h : CnN R j) {id : ByteArray} {u v : List UInt8} (hu : getL R (kConn id) = some u) : CnN (setL (kConn id) v R) j := by
  have e : numN (setL (kConn id) v R) sConn = numN R sConn := by
    unfold numN
    rw [getL_setL_ne _ _ _ _ (cn_ne_num _ _).symm]
  exact ⟨by rw [e]; exact h.num, fun k h1 h2 => setCn_none hu (h.fresh k (by omega) h2)⟩
theorem lenCn_made {R : List Pr} (hr : Rise R) {c : CnV} (hn : getL R (kConn (newID R sConn)) = none) : (R.filter (fun p => begB connP p.1)).length ≤ ((madeCn R c).filter (fun p => begB connP p.1)).length ∧ ((madeCn R c).filter (fun p => begB connP p.1)).length ≤ (R.filter (fun p => begB connP p.1)).length + 1 := by
  have e1 : ((newR R sConn).filter (fun p => begB connP p.1)).length = (R.filter (fun p => begB connP p.1)).length := lenF_setNo (p := begB connP) (conn_num _) _ _
  have hn2 : getL (newR R sConn) (kConn (newID R sConn)) = none := by
    unfold newR
    rw [getL_setL_ne _ _ _ _ (cn_ne_num _ _)]
    exact hn
  have hr2 : Rise (newR R sConn) := hr.setL _ _
  unfold madeCn
  generalize newR R sConn = R1 at *
  generalize newID R sConn = id at *
  unfold setL
  split
  · rw [lenF_new (p := begB connP) (conn_conn _) hr2 hn2, e1]
    omega
  · rw [e1]
    omega
theorem lenCn_set {R : List Pr} (hr : Rise R) {id : ByteArray} {u v : List UInt8} (hu : getL R (kConn id) = some u) : ((setL (kConn id) v R).filter (fun p => begB connP p.1)).length = (R.filter (fun p => begB connP p.1)).length := by
  unfold setL
  split
  · exact lenF_old (p := begB connP) (conn_conn _) hr hu v
  · rfl
/-- what a step may do to the connection that it names -/
def CnTurn (R R2 : List Pr) (e : Int) (id nm : ByteArray) (v : List UInt8) : Prop :=
  e = 0 ∧ id = nm ∧ identB id = true ∧ ∃ c c2, readCn v = some c ∧ getCn R2 id = some c2 ∧ c2.st = 3 ∧ c2.cl = c.cl ∧ c2.cc = c.cc ∧ (c.st = 1 ∨ c.st = 2 ∧ c2.ct = c.ct)
structure CnGo (R R2 : List Pr) (e : Int) (nm : ByteArray) (j : Nat) : Prop where
  n : CnN R2 (j + 1)
  lo : (R.filter (fun p => begB connP p.1)).length ≤ (R2.filter (fun p => begB connP p.1)).length
  hi : (R2.filter (fun p => begB connP p.1)).length ≤ (R.filter (fun p => begB connP p.1)).length + 1
  no : e ≠ 0 → (R2.filter (fun p => begB connP p.1)).length = (R.filter (fun p => begB connP p.1)).length
  all : ∀ id v, getL R (kConn id) = some v → ∃ v2, getL R2 (kConn id) = some v2 ∧ (v2 = v ∨ CnTurn R R2 e id nm v)
theorem CnGo.same {R R2 : List Pr} {j : Nat} (h : CnN R j) (s : CnSame R R2) (e : Int) (nm : ByteArray) : CnGo R R2 e nm j :=
  ⟨(h.same s).more (Nat.le_succ _), Nat.le_of_eq s.len.symm, by rw [s.len]; omega, fun _ => s.len, fun id v hv => ⟨v, by rw [s.cn]; exact hv, .inl rfl⟩⟩
theorem CnGo.made {R : List Pr} {j : Nat} (hr : Rise R) (h : CnN R j) (hj : j + 1 < 18446744073709551616) (c : CnV) (nm : ByteArray) : CnGo R (madeCn R c) 0 nm j := by
  have hn : getL R (kConn (newID R sConn)) = none := h.fresh _ (Nat.le_refl _) (by have := h.num; omega)
  obtain ⟨l1, l2⟩ := lenCn_made hr (c := c) hn
  exact ⟨h.made hj c, l1, l2, fun h => absurd rfl h, fun id v hv => ⟨v, by
    rw [madeCn_get (fun e => by rw [e, hn] at hv; cases hv)]
    exact hv, .inl rfl⟩⟩
theorem CnGo.turn {R : List Pr} {j : Nat} (hr : Rise R) (h : CnN R j) {id : ByteArray} {c c2 : CnV} (hc : getCn R id = some c) (hok : c2.ok) (h3 : c2.st = 3) (h4 : c2.cl = c.cl) (h5 : c2.cc = c.cc) (h6 : c.st = 1 ∨ c.st = 2 ∧ c2.ct = c.ct) : CnGo R (setL (kConn id) (cnB c2) R) 0 id j := by
  obtain ⟨g1, g2, g3⟩ := getCn_some hc
  have el := lenCn_set hr g2 (v := cnB c2)
  refine ⟨(h.set g2).more (Nat.le_succ _), Nat.le_of_eq el.symm, by rw [el]; omega, fun _ => el, fun a v hv => ?_⟩
  by_cases hp : pairB (kConn id, cnB c2) = true
  · rw [getL_setL _ _ _ _ hp]
    by_cases ha : a = id
    · subst ha
      rw [if_pos rfl]
      rw [g2] at hv
      injection hv with hv
      refine ⟨_, rfl, .inr ⟨rfl, rfl, g1, c, c2, ?_, ?_, h3, h4, h5, h6⟩⟩
      · rw [← hv]; exact readCn_cnB g3
      · exact getCn_of g1 (by rw [getL_setL _ _ _ _ hp, if_pos rfl]) hok
    · rw [if_neg (fun e => ha (kConn_inj e))]
      exact ⟨v, hv, .inl rfl⟩
  · unfold setL
    rw [if_neg hp]
    exact ⟨v, hv, .inl rfl⟩
theorem CnN.start {R : List Pr} (hr : Rise R) (h : R.filter (fun p => begB ibcP p.1) = []) : CnN R 0 := by
  have e : numN R sConn = 0 := by
    unfold numN
    rw [untouched hr h (ibc_num _)]
    rfl
  exact ⟨Nat.le_of_eq e, fun k _ _ => untouched hr h (ibc_conn _)⟩
end Go.Proofs.YtpcoonnfaoakhaaGreatDoor
namespace Go.Proofs.YtpcoonnfaoakhaaGreatDoor
set_option maxRecDepth 100000
open Go Go.RowKit
set_option linter.unusedVariables false

end Go.Proofs.YtpcoonnfaoakhaaGreatDoor
namespace Go.Proofs.YtpcoonnfaoakhaaGreatDoor
set_option maxRecDepth 100000
open Go Go.RowKit
set_option linter.unusedVariables false

end Go.Proofs.YtpcoonnfaoakhaaGreatDoor
namespace Go.Proofs.YtpcoonnfaoakhaaGreatDoor
set_option maxRecDepth 100000
open Go Go.RowKit
set_option linter.unusedVariables false

def ChV.ok (v : ChV) : Prop := v.st < 18446744073709551616 ∧ v.po.size ≤ 65535 ∧ v.cp.size ≤ 65535 ∧ v.cn.size ≤ 65535 ∧ v.cc.size ≤ 65535 ∧ v.ve.size ≤ 65535
def chShowE (R : List Pr) (id : ByteArray) (c : ChV) (st ht now : Nat) (p : Pf) : Int :=
  if openE R c.cn = 0 then verifyE R (openV R c.cn).cl ht now (kChn c.cc) (chB ⟨st, c.od, c.cp, c.po, (openV R c.cn).ct, id, c.ve⟩) p else openE R c.cn
def chTryE (R : List Pr) (c : ChV) (ht now : Nat) (p : Pf) : Int :=
  if openE R c.cn = 0 then (if formM c.cp c.po c.od c.ve = 0 then (if identB c.cc = true then chShowE R ⟨#[]⟩ c 1 ht now p else 40) else formM c.cp c.po c.od c.ve) else openE R c.cn
def chAckE (R : List Pr) (id cch : ByteArray) (ht now : Nat) (p : Pf) : Int :=
  if inStE R id 1 = 0 then (if identB cch = true then chShowE R id ⟨(inStV R id 1).st, (inStV R id 1).od, (inStV R id 1).po, (inStV R id 1).cp, (inStV R id 1).cn, cch, (inStV R id 1).ve⟩ 2 ht now p else 40) else inStE R id 1
def chFolE (R : List Pr) (id : ByteArray) (fm to ht now : Nat) (p : Pf) : Int :=
  if inStE R id fm = 0 then chShowE R id (inStV R id fm) to ht now p else inStE R id fm
def chCloE (R : List Pr) (id : ByteArray) : Int := if inStE R id 3 = 0 then (if (inStV R id 3).od = true then 0 else 122) else inStE R id 3
def chBeginP (R : List Pr) (via po cp : ByteArray) (od : Bool) (ve : ByteArray) : Int × List Pr := (beginE R via po cp od ve, beginR R via po cp od ve)
def chTryP (R : List Pr) (c : ChV) (ht now : Nat) (p : Pf) : Int × List Pr := (chTryE R c ht now p, if chTryE R c ht now p = 0 then madeCh R ⟨2, c.od, c.po, c.cp, c.cn, c.cc, c.ve⟩ else R)
def chAckP (R : List Pr) (id cch : ByteArray) (ht now : Nat) (p : Pf) : Int × List Pr := (chAckE R id cch ht now p, if chAckE R id cch ht now p = 0 then setL (kChn id) (chB ⟨3, (inStV R id 1).od, (inStV R id 1).po, (inStV R id 1).cp, (inStV R id 1).cn, cch, (inStV R id 1).ve⟩) R else R)
def chFolP (R : List Pr) (id : ByteArray) (fm to ht now : Nat) (p : Pf) : Int × List Pr := (chFolE R id fm to ht now p, if chFolE R id fm to ht now p = 0 then setL (kChn id) (chB ⟨to, (inStV R id fm).od, (inStV R id fm).po, (inStV R id fm).cp, (inStV R id fm).cn, (inStV R id fm).cc, (inStV R id fm).ve⟩) R else R)
def chCloP (R : List Pr) (id : ByteArray) : Int × List Pr := (chCloE R id, if chCloE R id = 0 then setL (kChn id) (chB ⟨4, (inStV R id 3).od, (inStV R id 3).po, (inStV R id 3).cp, (inStV R id 3).cn, (inStV R id 3).cc, (inStV R id 3).ve⟩) R else R)
/-- a step of layers 14 to 16 -/
def stepM16 (R : List Pr) (x : StepV) : Int × List Pr :=
  if x.m.kd = 2 then (createE (hdOf x.m.h) x.m.per x.now, if createE (hdOf x.m.h) x.m.per x.now = 0 then createR R (hdOf x.m.h) x.m.per else R)
  else if x.m.kd = 3 then updM R x.m.cl (nwOf x.m) x.now
  else if x.m.kd = 4 then misM R x.m.cl (nwOf x.m) (nw2Of x.m) x.now
  else if x.m.kd = 5 then cnBeginP R x.m.cl x.m.cc
  else if x.m.kd = 6 then cnTryP R x.m.cl x.m.cc x.m.cd x.m.ht x.now x.m.pf
  else if x.m.kd = 7 then cnAckP R x.m.cn x.m.cd x.m.ht x.now x.m.pf
  else if x.m.kd = 8 then cnConP R x.m.cn x.m.ht x.now x.m.pf
  else if x.m.kd = 9 then chBeginP R x.m.cn x.m.po x.m.pe x.m.od x.m.ve
  else if x.m.kd = 10 then chTryP R ⟨0, x.m.od, x.m.po, x.m.pe, x.m.cn, x.m.ce, x.m.ve⟩ x.m.ht x.now x.m.pf
  else if x.m.kd = 11 then chAckP R x.m.ch x.m.ce x.m.ht x.now x.m.pf
  else if x.m.kd = 12 then chFolP R x.m.ch 2 3 x.m.ht x.now x.m.pf
  else if x.m.kd = 13 then chCloP R x.m.ch
  else if x.m.kd = 14 then chFolP R x.m.ch 3 4 x.m.ht x.now x.m.pf
  else (83, R)
theorem openV_ok {R : List Pr} {via : ByteArray} : (openV R via).ok := by
  unfold openV
  split
  · exact gotN_ok
  · exact ⟨by show 0 < _; decide, by show 0 ≤ _; omega, by show 0 ≤ _; omega, by show 0 ≤ _; omega⟩
end Go.Proofs.YtpcoonnfaoakhaaGreatDoor
namespace Go.Proofs.YtpcoonnfaoakhaaGreatDoor
set_option maxRecDepth 100000
open Go Go.RowKit
set_option linter.unusedVariables false

set_option maxHeartbeats 16000000 in
theorem chshown_any {W w : World} {y : Lyr} {l : List Lyr} {R : List Pr} {k : Nat} (h : At W y l R k w) (id : ByteArray) (hid : id.size ≤ 1048576) (st sn : Nat) (od : Bool) (po cp cn cc ve : ByteArray) (h_sn : sn < 18446744073709551616) (h_po : po.size ≤ 1048576) (h_cp : cp.size ≤ 1048576) (h_cn : cn.size ≤ 1048576) (h_cc : cc.size ≤ 1048576) (h_ve : ve.size ≤ 1048576) (ht now : Nat) (h_ht : ht < 18446744073709551616) (h_now : now < 18446744073709551616)
    (n : Int) (A : Option Addr) (m c : Nat) (p : Pf) (hp : ∀ Z, Below w.heap.size w Z → ProofV Z Z.heap.size (.agg #[.int .i64 n, .slice A m c]) p)
    (fr : TypeId × Nat × Nat) (hk : w.heap[0]? = some (.cells kVals fr.1 fr.2)) :
    Calls Tryz.prog 93 #[.pointer (some ⟨y.b, 0, none⟩), .string id, .agg #[.int .u64 (st : Int), .bool od, .string po, .string cp, .string cn, .string cc, .string ve], .int .u64 (sn : Int), .int .u64 (ht : Int), .agg #[.int .i64 n, .slice A m c], .int .u64 (now : Int)] w fun e w' => e = .returned (.int .i64 (chShowE R id ⟨st, od, po, cp, cn, cc, ve⟩ sn ht now p)) ∧ Below w.heap.size w w' := by
  have hb1 : Below w.heap.size w (w.alloc (.cells #[.int .u64 (st : Int), .bool od, .string po, .string cp, .string cn, .string cc, .string ve] 59)) := (Below.refl _ _).alloc (Nat.le_refl _) _
  have ha0 := hb1.alloc hb1.size (.cells #[.int .i64 n, .slice A m c] 69)
  have q1 := heap_alloc_new w (.cells #[.int .u64 (st : Int), .bool od, .string po, .string cp, .string cn, .string cc, .string ve] 59)
  have q2 := heap_alloc_new (w.alloc (.cells #[.int .u64 (st : Int), .bool od, .string po, .string cp, .string cn, .string cc, .string ve] 59)) (.cells #[.int .i64 n, .slice A m c] 69)
  replace q1 := (Below.heap_alloc (w.alloc (.cells #[.int .u64 (st : Int), .bool od, .string po, .string cp, .string cn, .string cc, .string ve] 59)) (.cells #[.int .i64 n, .slice A m c] 69) _ (blk_lt q1)).trans q1
  rw [show (w.alloc (.cells #[.int .u64 (st : Int), .bool od, .string po, .string cp, .string cn, .string cc, .string ve] 59)).heap.size = w.heap.size + 1 by simp] at q2
  clear hb1
  have hok : (openV R cn).ok := openV_ok
  have hO := chopen_any (h.up ha0) cn (by omega)
  obtain ⟨V, hV⟩ : ∃ v, v = openV R cn := ⟨_, rfl⟩
  obtain ⟨O, hOE⟩ : ∃ e, e = openE R cn := ⟨_, rfl⟩
  rw [← hV, ← hOE] at hO
  rw [← hV] at hok
  unfold chShowE
  dsimp only
  rw [← hV, ← hOE]
  obtain ⟨vst, vcl, vcc, vct⟩ := V
  obtain ⟨o1, o2, o3, o4⟩ := hok
  unfold CnV.val at hO
  dsimp only at hO o1 o2 o3 o4 ⊢
  have HO := Lib.hid hO
  obtain ⟨E, hE⟩ : ∃ e, e = verifyE R vcl ht now (kChn cc) (chB ⟨sn, od, cp, po, vct, id, ve⟩) p := ⟨_, rfl⟩
  rw [← hE]
  have HKY : Hid (∀ Z : World, Calls Tryz.prog 34 #[.string cc] Z fun e w' => e = .returned (.string (kChn cc)) ∧ Z = w') := Lib.hid fun Z => chkey_any _ Z (by omega)
  have HBY : Hid (∀ Z : World, Calls Tryz.prog 32 #[.agg #[.int .u64 (sn : Int), .bool od, .string cp, .string po, .string vct, .string id, .string ve]] Z fun e w' => ∃ v', e = .returned v' ∧ Own w' Z.heap.size v' (chB ⟨sn, od, cp, po, vct, id, ve⟩) ∧ Below Z.heap.size Z w') := Lib.hid fun Z => chbytes_any ⟨sn, od, cp, po, vct, id, ve⟩ Z (by show sn < _; exact h_sn) (by show ByteArray.size cp ≤ _; unfold maxLen; omega) (by show ByteArray.size po ≤ _; unfold maxLen; omega) (by show ByteArray.size vct ≤ _; unfold maxLen; omega) (by show ByteArray.size id ≤ _; unfold maxLen; omega) (by show ByteArray.size ve ≤ _; unfold maxLen; omega)
  have HVE : Hid (∀ (Z : World) (hz : Below w.heap.size w Z) (v : Value) (B : Nat) (ho : Own Z B v (chB ⟨sn, od, cp, po, vct, id, ve⟩)), Calls Tryz.prog 70 #[.pointer (some ⟨y.b, 0, none⟩), .string vcl, .int .u64 (ht : Int), .string (kChn cc), v, .agg #[.int .i64 n, .slice A m c], .int .u64 (now : Int)] Z fun e w' => e = .returned (.int .i64 E) ∧ Below Z.heap.size Z w') :=
    Lib.hid fun Z hz v B ho => by
      have := clverify_any (h.up hz) vcl ht now (by omega) h_ht h_now (kChn cc) v (chB ⟨sn, od, cp, po, vct, id, ve⟩) n A m c p (fun Z2 hz2 => hp Z2 (below_chain hz hz.size hz2)) ho.rd fr ((hz.block _ (blk_lt hk)).trans hk)
      rw [← hE] at this
      exact this
  generalize chB ⟨sn, od, cp, po, vct, id, ve⟩ = L1 at *
  generalize kChn cc = key at *
  generalize hW0 : (w.alloc (.cells #[.int .u64 (st : Int), .bool od, .string po, .string cp, .string cn, .string cc, .string ve] 59)).alloc (.cells #[.int .i64 n, .slice A m c] 69) = W0 at *
  have HW : Hid (∀ Z, Below W0.heap.size W0 Z → Below w.heap.size w Z) := Lib.hid fun Z hz => below_chain ha0 ha0.size hz
  generalize hgg : w.heap.size = g0 at *
  have HC0 : Hid (∀ Z, Below W0.heap.size W0 Z → Z.heap[g0]? = some (.cells #[.int .u64 (st : Int), .bool od, .string po, .string cp, .string cn, .string cc, .string ve] 59 (0, 0))) := Lib.hid fun Z hz => (hz.block _ (blk_lt q1)).trans q1
  have HP0 : Hid (∀ Z, Below W0.heap.size W0 Z → Z.heap[g0 + 1]? = some (.cells #[.int .i64 n, .slice A m c] 69 (0, 0))) := Lib.hid fun Z hz => (hz.block _ (blk_lt q2)).trans q2
  have HKP : Hid (∀ Z, Below g0 w Z → Kept w Z) := Lib.hid fun Z hz => Kept.of_belowX (by rw [hgg]; exact hz)
  have HG0 : Hid (g0 ≤ W0.heap.size) := Lib.hid (by rw [← hgg]; exact ha0.size)
  clear h hid h_sn h_po h_cp h_cn h_cc h_ve hp hk hE hV hOE q1 q2 ha0 h_ht h_now o1 o2 o3 o4
  by_cases hz : O = 0
  rotate_left
  · rw [if_neg hz]
    have hneB : (O != 0) = true := by simpa using hz
    have m0 := HC0.out _ (Below.refl _ _)
    have c4 := blk_cell m0 4
    go_enter Tryz.func93, Tryz.ntmps93
    go_wp2_with fail
    try rw [hW0]
    clear hW0
    try rw [hgg]
    refine HO.out.mono ?_
    rintro e w1 ⟨rfl, hb1⟩
    have b2 := hb1.alloc hb1.size (.cells #[.int .u64 (vst : Int), .string vcl, .string vcc, .string vct] 62)
    have mN := heap_alloc_new w1 (.cells #[.int .u64 (vst : Int), .string vcl, .string vcc, .string vct] 62)
    have hfin := HW.out _ b2
    clear mN m0 HBY HKY HVE HC0 HP0 HW HKP HO hb1
    go_wp2_with fail
    go_ret
    exact ⟨rfl, by first | exact hfin | (rw [hgg]; exact hfin)⟩
  subst hz
  rw [if_pos rfl]
  have m0 := HC0.out _ (Below.refl _ _)
  have c4 := blk_cell m0 4
  go_enter Tryz.func93, Tryz.ntmps93
  go_wp2_with fail
  try rw [hW0]
  clear hW0
  try rw [hgg]
  refine HO.out.mono ?_
  rintro e w1 ⟨rfl, hb1⟩
  have b2 := hb1.alloc hb1.size (.cells #[.int .u64 (vst : Int), .string vcl, .string vcc, .string vct] 62)
  have mN := heap_alloc_new w1 (.cells #[.int .u64 (vst : Int), .string vcl, .string vcc, .string vct] 62)
  clear c4 m0 HO hb1
  have m2 := HC0.out _ b2
  have c1 := blk_cell m2 1
  have c2 := blk_cell m2 2
  have c3 := blk_cell m2 3
  have c4 := blk_cell m2 4
  have c5 := blk_cell m2 5
  have c6 := blk_cell m2 6
  have v3 := blk_cell mN 3
  have HMN : Hid (∀ Z, Below (w1.alloc (.cells #[.int .u64 (vst : Int), .string vcl, .string vcc, .string vct] 62)).heap.size (w1.alloc (.cells #[.int .u64 (vst : Int), .string vcl, .string vcc, .string vct] 62)) Z → Z.heap[w1.heap.size]? = some (.cells #[.int .u64 (vst : Int), .string vcl, .string vcc, .string vct] 62 (0, 0))) := Lib.hid fun Z hz => (hz.block _ (blk_lt mN)).trans mN
  have hs2 : (w1.alloc (.cells #[.int .u64 (vst : Int), .string vcl, .string vcc, .string vct] 62)).heap.size = w1.heap.size + 1 := by simp
  have HS2 := Lib.hid hs2
  clear mN m2 hs2
  go_wp2_with fail
  clear c1 c2 c3 c4 c5 c6 v3
  generalize w1.alloc (.cells #[.int .u64 (vst : Int), .string vcl, .string vcc, .string vct] 62) = w2 at *
  generalize w1.heap.size = gN at *
  have b3 := b2.alloc b2.size (.cells #[.int .u64 (sn : Int), .bool od, .string cp, .string po, .string vct, .string id, .string ve] 59)
  have mO := heap_alloc_new w2 (.cells #[.int .u64 (sn : Int), .bool od, .string cp, .string po, .string vct, .string id, .string ve] 59)
  have hb23 : Below w2.heap.size w2 (w2.alloc (.cells #[.int .u64 (sn : Int), .bool od, .string cp, .string po, .string vct, .string id, .string ve] 59)) := (Below.refl _ _).alloc (Nat.le_refl _) _
  rw [HS2.out] at mO
  generalize w2.alloc (.cells #[.int .u64 (sn : Int), .bool od, .string cp, .string po, .string vct, .string id, .string ve] 59) = w3 at *
  have HC : Hid (∀ Z, Below w3.heap.size w3 Z → Z.cell? ⟨g0, 5, none⟩ = some (.string cc) ∧ Z.cell? ⟨g0 + 1, 0, none⟩ = some (.int .i64 n) ∧ Z.cell? ⟨g0 + 1, 1, none⟩ = some (.slice A m c) ∧ Z.cell? ⟨gN, 1, none⟩ = some (.string vcl) ∧ Z.cell? ⟨gN + 1, 0, none⟩ = some (.int .u64 (sn : Int)) ∧ Z.cell? ⟨gN + 1, 1, none⟩ = some (.bool od) ∧ Z.cell? ⟨gN + 1, 2, none⟩ = some (.string cp) ∧ Z.cell? ⟨gN + 1, 3, none⟩ = some (.string po) ∧ Z.cell? ⟨gN + 1, 4, none⟩ = some (.string vct) ∧ Z.cell? ⟨gN + 1, 5, none⟩ = some (.string id) ∧ Z.cell? ⟨gN + 1, 6, none⟩ = some (.string ve)) := Lib.hid fun Z hz => by
    have e1 := HC0.out Z (b3.trans (hz.mono b3.size))
    have e2 := HP0.out Z (b3.trans (hz.mono b3.size))
    have e3 := HMN.out Z (hb23.trans (hz.mono hb23.size))
    have e4 := (hz.block _ (blk_lt mO)).trans mO
    exact ⟨blk_cell e1 5, blk_cell e2 0, blk_cell e2 1, blk_cell e3 1, blk_cell e4 0, blk_cell e4 1, blk_cell e4 2, blk_cell e4 3, blk_cell e4 4, blk_cell e4 5, blk_cell e4 6⟩
  have hkD : Below w3.heap.size w3 w3.drew := Below.drew (Below.refl _ _)
  have HVE2 := Lib.hid (fun (Z : World) (hz : Below w3.heap.size w3 Z) (v : Value) (B : Nat) (ho : Own Z B v L1) => HVE.out Z (HW.out _ (b3.trans (hz.mono b3.size))) v B ho)
  have B3 := Lib.hid b3
  clear mO b3 b2 hb23 HMN HC0 HP0 HVE HS2
  go_region_held_law (fun Z => Z.cell? ⟨g0, 5, none⟩ = some (.string cc) ∧ Z.cell? ⟨g0 + 1, 0, none⟩ = some (.int .i64 n) ∧ Z.cell? ⟨g0 + 1, 1, none⟩ = some (.slice A m c) ∧ Z.cell? ⟨gN, 1, none⟩ = some (.string vcl) ∧ Z.cell? ⟨gN + 1, 0, none⟩ = some (.int .u64 (sn : Int)) ∧ Z.cell? ⟨gN + 1, 1, none⟩ = some (.bool od) ∧ Z.cell? ⟨gN + 1, 2, none⟩ = some (.string cp) ∧ Z.cell? ⟨gN + 1, 3, none⟩ = some (.string po) ∧ Z.cell? ⟨gN + 1, 4, none⟩ = some (.string vct) ∧ Z.cell? ⟨gN + 1, 5, none⟩ = some (.string id) ∧ Z.cell? ⟨gN + 1, 6, none⟩ = some (.string ve))
    (with_reducible first | exact HC.out _ hk2 | exact HC.out _ hk1 | exact HC.out _ hkD)
    ((first
      | (go_at_call 34; refine (HKY.out _).mono ?_; rintro e w9 ⟨rfl, rfl⟩)
      | (go_at_call 32; refine (HBY.out _).mono ?_; rintro e w4 ⟨v4, rfl, ho4, hb4⟩; have hk1 := below_chain hkD hkD.size hb4)
      | (go_at_call 70; refine (HVE2.out _ hk1 _ _ ho4).mono ?_; rintro e w5 ⟨rfl, hb5⟩; have hk2 := below_chain hk1 hk1.size hb5)))
  all_goals
    have hfin := HW.out _ (B3.out.trans (hk2.mono B3.out.size))
    go_wp2_with fail
    go_ret
    exact ⟨rfl, by first | exact hfin | (rw [hgg]; exact hfin)⟩
end Go.Proofs.YtpcoonnfaoakhaaGreatDoor
namespace Go.Proofs.YtpcoonnfaoakhaaGreatDoor
set_option maxRecDepth 100000
open Go Go.RowKit
set_option linter.unusedVariables false

def ChV.cells (v : ChV) : Array Value := #[.int .u64 (v.st : Int), .bool v.od, .string v.po, .string v.cp, .string v.cn, .string v.cc, .string v.ve]
end Go.Proofs.YtpcoonnfaoakhaaGreatDoor
namespace Go.Proofs.YtpcoonnfaoakhaaGreatDoor
set_option maxRecDepth 100000
open Go.ChangeShapes Go.WideShapes Go.ChangeAt Go.RowKit Go.Deep

section
variable {H : Type} {enc : TypeId × Value → H} {P : Program} {w : World}

theorem bulk_bound {l : List (DataW H)} (hk : Rows.uptoSmall H l = true) : Rows.uptoBulkAll l ≤ 1048576 := of_decide_eq_true hk

/-- a byte that an integer in range is -/
def byteOf (z : Int) : UInt8 := UInt8.ofNat z.toNat
end
end Go.Proofs.YtpcoonnfaoakhaaGreatDoor
namespace Go.Proofs.YtpcoonnfaoakhaaGreatDoor
set_option maxRecDepth 100000
open Go.ChangeShapes Go.WideShapes Go.ChangeAt Go.RowKit Go.Deep

end Go.Proofs.YtpcoonnfaoakhaaGreatDoor
namespace Go.Proofs.YtpcoonnfaoakhaaGreatDoor
set_option maxRecDepth 100000
open Go Go.ChangeShapes Go.WideShapes Go.ChangeAt Go.RowKit Go.Deep
set_option linter.unusedVariables false

theorem u64_natG {c : Value} {H : Type} {enc : TypeId × Value → H} {W : World} {n : Nat} {y : DataW H × List MemPlace}
    (h : DataW.trod enc Tryz.prog W 0 (fun _ => true) true n 23 [c] = some y) : ∃ k : Nat, c = .int .u64 (k : Int) ∧ k < 18446744073709551616 := by
  obtain ⟨z, hc, _, hw⟩ := DataW.trod_int Tryz.underlying23 h
  have h2 : 0 ≤ z ∧ z ≤ 18446744073709551615 := by simpa [Lit.wf, IntKind.min, IntKind.max, IntKind.signed, IntKind.bits] using hw
  obtain ⟨k, rfl⟩ := Int.eq_ofNat_of_zero_le h2.1
  refine ⟨k, by simpa using hc, by omega⟩
theorem one_stringG : Tryz.prog.cellsOf 9 = 1 := by kernel_rfl
theorem one_u64G : Tryz.prog.cellsOf 23 = 1 := by kernel_rfl
theorem one_boolG : Tryz.prog.cellsOf 4 = 1 := by kernel_rfl
end Go.Proofs.YtpcoonnfaoakhaaGreatDoor
namespace Go.Proofs.YtpcoonnfaoakhaaGreatDoor
set_option maxRecDepth 100000
open Go Go.ChangeShapes Go.WideShapes Go.ChangeAt Go.RowKit Go.Deep
set_option linter.unusedVariables false

end Go.Proofs.YtpcoonnfaoakhaaGreatDoor
namespace Go.Proofs.YtpcoonnfaoakhaaGreatDoor
set_option maxRecDepth 100000
open Go Go.ChangeShapes Go.WideShapes Go.ChangeAt Go.RowKit Go.Deep
set_option linter.unusedVariables false

end Go.Proofs.YtpcoonnfaoakhaaGreatDoor
namespace Go.Proofs.YtpcoonnfaoakhaaGreatDoor
set_option maxRecDepth 100000
open Go Go.ChangeShapes Go.WideShapes Go.ChangeAt Go.RowKit Go.Deep
set_option linter.unusedVariables false

end Go.Proofs.YtpcoonnfaoakhaaGreatDoor
namespace Go.Proofs.YtpcoonnfaoakhaaGreatDoor
set_option maxRecDepth 100000
open Go Go.RowKit Go.ChangeShapes Go.WideShapes
set_option linter.unusedVariables false

end Go.Proofs.YtpcoonnfaoakhaaGreatDoor
namespace Go.Proofs.YtpcoonnfaoakhaaGreatDoor
set_option maxRecDepth 100000
open Go.ChangeShapes Go.WideShapes Go.ChangeAt Go.RowKit Go.Deep
set_option linter.unusedVariables false

theorem chnnL {α : Type} {l : List α} (h : l.length = 7) : ∃ x0 x1 x2 x3 x4 x5 x6, l = [x0, x1, x2, x3, x4, x5, x6] := by
  match l, h with
  | [x0, x1, x2, x3, x4, x5, x6], _ => exact ⟨x0, x1, x2, x3, x4, x5, x6, rfl⟩
theorem Tryz.chnnFields : ∃ f0 f1 f2 f3 f4 f5 f6 : Field, Tryz.prog.underlying 59 = some (.struct #[f0, f1, f2, f3, f4, f5, f6]) ∧ f0.type = 23 ∧ f1.type = 4 ∧ f2.type = 9 ∧ f3.type = 9 ∧ f4.type = 9 ∧ f5.type = 9 ∧ f6.type = 9 ∧
    Hid (f0.offset = 0 ∧ f1.offset = 1 ∧ f2.offset = 2 ∧ f3.offset = 3 ∧ f4.offset = 4 ∧ f5.offset = 5 ∧ f6.offset = 6) :=
  ⟨_, _, _, _, _, _, _, Tryz.underlying59, rfl, rfl, rfl, rfl, rfl, rfl, rfl, (⟨rfl, rfl, rfl, rfl, rfl, rfl, rfl⟩ : _ ∧ _ ∧ _ ∧ _ ∧ _ ∧ _ ∧ _)⟩
theorem trod_chnn {H : Type} {enc : TypeId × Value → H} {W : World} {n : Nat} {cs : List Value} {y : DataW H × List MemPlace} (hl : cs.length = 7)
    (hf : DataW.trod enc Tryz.prog W 0 (fun _ => true) true n 59 cs = some y) :
    ∃ (a0 : Nat) (a1 : Bool) (a2 : ByteArray) (a3 : ByteArray) (a4 : ByteArray) (a5 : ByteArray) (a6 : ByteArray), cs = [.int .u64 (a0 : Int), .bool a1, .string a2, .string a3, .string a4, .string a5, .string a6] ∧ a0 < 18446744073709551616 ∧ a2.size + a3.size + a4.size + a5.size + a6.size ≤ Rows.uptoBulk y.1 := by
  obtain ⟨f0, f1, f2, f3, f4, f5, f6, hu, e0, e1, e2, e3, e4, e5, e6, ho⟩ := Tryz.chnnFields
  obtain ⟨x0, x1, x2, x3, x4, x5, x6, rfl⟩ := chnnL hl
  obtain ⟨xs, n', _, hy, _, hlen, hg⟩ := DataW.trod_struct hu hf
  obtain ⟨y0, y1, y2, y3, y4, y5, y6, rfl⟩ := chnnL hlen
  obtain ⟨o0, o1, o2, o3, o4, o5, o6⟩ := ho.out
  have g0 := hg 0 f0 rfl
  rw [o0, e0, one_u64G] at g0
  have g1 := hg 1 f1 rfl
  rw [o1, e1, one_boolG] at g1
  have g2 := hg 2 f2 rfl
  rw [o2, e2, one_stringG] at g2
  have g3 := hg 3 f3 rfl
  rw [o3, e3, one_stringG] at g3
  have g4 := hg 4 f4 rfl
  rw [o4, e4, one_stringG] at g4
  have g5 := hg 5 f5 rfl
  rw [o5, e5, one_stringG] at g5
  have g6 := hg 6 f6 rfl
  rw [o6, e6, one_stringG] at g6
  obtain ⟨a0, q0, b0⟩ := u64_natG (c := x0) g0
  subst q0
  obtain ⟨a1, ea1, _⟩ := DataW.trod_bool Tryz.underlying4 g1
  simp at ea1
  subst ea1
  obtain ⟨a2, ea2, ha2, _⟩ := DataW.trod_string Tryz.underlying9 g2
  have ha2' : y2.1 = .lit (.string a2.data.toList) := congrArg Prod.fst ha2
  have es2 : a2.data.toList.length = a2.size := by rw [Array.length_toList]; rfl
  simp at ea2
  subst ea2
  obtain ⟨a3, ea3, ha3, _⟩ := DataW.trod_string Tryz.underlying9 g3
  have ha3' : y3.1 = .lit (.string a3.data.toList) := congrArg Prod.fst ha3
  have es3 : a3.data.toList.length = a3.size := by rw [Array.length_toList]; rfl
  simp at ea3
  subst ea3
  obtain ⟨a4, ea4, ha4, _⟩ := DataW.trod_string Tryz.underlying9 g4
  have ha4' : y4.1 = .lit (.string a4.data.toList) := congrArg Prod.fst ha4
  have es4 : a4.data.toList.length = a4.size := by rw [Array.length_toList]; rfl
  simp at ea4
  subst ea4
  obtain ⟨a5, ea5, ha5, _⟩ := DataW.trod_string Tryz.underlying9 g5
  have ha5' : y5.1 = .lit (.string a5.data.toList) := congrArg Prod.fst ha5
  have es5 : a5.data.toList.length = a5.size := by rw [Array.length_toList]; rfl
  simp at ea5
  subst ea5
  obtain ⟨a6, ea6, ha6, _⟩ := DataW.trod_string Tryz.underlying9 g6
  have ha6' : y6.1 = .lit (.string a6.data.toList) := congrArg Prod.fst ha6
  have es6 : a6.data.toList.length = a6.size := by rw [Array.length_toList]; rfl
  simp at ea6
  subst ea6
  refine ⟨a0, a1, a2, a3, a4, a5, a6, rfl, b0, ?_⟩
  have hy1 := congrArg Prod.fst hy
  rw [hy1]
  simp only [Rows.uptoBulk, List.map_cons, List.map_nil, Rows.uptoBulkAll, ha2', es2, ha3', es3, ha4', es4, ha5', es5, ha6', es6]
  omega
theorem open_chnn {H : Type} {enc : TypeId × Value → H} {W : World} {v : Value} {d : DataW H} {p : List MemPlace} {base : Nat} (hv : Value.okWide Tryz.prog W .any base 59 v)
    (h : DataW.Trod enc Tryz.prog W 0 (fun _ => true) true 59 v d p) :
    ∃ (a0 : Nat) (a1 : Bool) (a2 : ByteArray) (a3 : ByteArray) (a4 : ByteArray) (a5 : ByteArray) (a6 : ByteArray), v = .agg #[.int .u64 (a0 : Int), .bool a1, .string a2, .string a3, .string a4, .string a5, .string a6] ∧ a0 < 18446744073709551616 ∧ a2.size + a3.size + a4.size + a5.size + a6.size ≤ Rows.uptoBulk d := by
  obtain ⟨f0, f1, f2, f3, f4, f5, f6, hu, -⟩ := Tryz.chnnFields
  have hC : Tryz.prog.cellsOf 59 = 7 := by kernel_rfl
  obtain ⟨cs, rfl, hsz⟩ := okWide_struct hu hv
  obtain ⟨fuel, hf⟩ := h
  have hl : cs.toList.length = 7 := by rw [Array.length_toList]; exact hsz.trans hC
  obtain ⟨a0, a1, a2, a3, a4, a5, a6, hcs, hrest⟩ := trod_chnn (cs := cs.toList) hl hf
  refine ⟨a0, a1, a2, a3, a4, a5, a6, ?_, hrest⟩
  congr 1
  obtain ⟨l⟩ := cs
  simp at hcs
  rw [hcs]
end Go.Proofs.YtpcoonnfaoakhaaGreatDoor
namespace Go.Proofs.YtpcoonnfaoakhaaGreatDoor
set_option maxRecDepth 100000
open Go Go.ChangeShapes Go.WideShapes Go.ChangeAt Go.RowKit Go.Deep
set_option linter.unusedVariables false

instance : Inhabited (ByteArray × List UInt8) := ⟨(⟨#[]⟩, [])⟩
end Go.Proofs.YtpcoonnfaoakhaaGreatDoor
namespace Go.Proofs.YtpcoonnfaoakhaaGreatDoor
set_option maxRecDepth 100000
open Go Go.ChangeShapes Go.WideShapes Go.ChangeAt Go.RowKit Go.Deep
set_option linter.unusedVariables false

section
variable {H : Type} {enc : TypeId × Value → H} {W : World} {fuel : Nat}
instance : Inhabited Lf := ⟨⟨0, ⟨#[]⟩, [], []⟩⟩
end
end Go.Proofs.YtpcoonnfaoakhaaGreatDoor
namespace Go.Proofs.YtpcoonnfaoakhaaGreatDoor
set_option maxRecDepth 100000
open Go Go.ChangeShapes Go.WideShapes Go.ChangeAt Go.RowKit Go.Deep
set_option linter.unusedVariables false

section
variable {H : Type} {enc : TypeId × Value → H} {W : World} {n : Nat} {y : DataW H × List MemPlace}
instance : Inhabited VD := ⟨⟨⟨#[]⟩, 0⟩⟩
end
instance : Inhabited OrdV := ⟨⟨⟨#[]⟩, ⟨#[]⟩, U4.zero⟩⟩
instance : Inhabited StepV := ⟨⟨0, 0, 0, ⟨#[]⟩, ⟨0, ⟨#[]⟩, ⟨#[]⟩, U4.zero, ⟨#[]⟩, ⟨#[]⟩, ⟨#[]⟩, ⟨#[]⟩, ⟨#[]⟩, ⟨#[]⟩, ⟨#[]⟩, ⟨#[]⟩, ⟨#[]⟩, false, ⟨⟨#[]⟩, 0, 0, .slice none 0 0, .slice none 0 0, .slice none 0 0, [], [], []⟩, ⟨⟨#[]⟩, 0, 0, .slice none 0 0, .slice none 0 0, .slice none 0 0, [], [], []⟩, .slice none 0 0, [], .slice none 0 0, [], .slice none 0 0, [], .slice none 0 0, [], .slice none 0 0, [], 0, 0, 0, 0, ⟨⟨#[]⟩, ⟨#[]⟩, 0, .slice none 0 0, [], 0, 0⟩, .slice none 0 0, [], .slice none 0 0, ⟨0, []⟩, 0, ⟨⟨#[]⟩, U4.zero, U4.zero, U4.zero⟩, .slice none 0 0, []⟩⟩⟩
end Go.Proofs.YtpcoonnfaoakhaaGreatDoor
