/- Texts joined: CnM. -/
import Derived.Test.YtmphegeiclgjbaaGreatDoorM18
namespace Go.Proofs.YtmphegeiclgjbaaGreatDoor
set_option maxRecDepth 100000
open Go Go.RowKit
set_option linter.unusedVariables false

/-! ### decimal texts -/
theorem decN_lt {u : Nat} (h : u < 10) : Lib.decDigits u = [UInt8.ofNat (48 + u)] := by rw [Lib.decDigits, dif_pos h]
theorem decN_ge {u : Nat} (h : ¬ u < 10) : Lib.decDigits u = Lib.decDigits (u / 10) ++ [UInt8.ofNat (48 + u % 10)] := by rw [Lib.decDigits, dif_neg h]
theorem decN_pos (u : Nat) : 0 < (Lib.decDigits u).length := by
  by_cases h : u < 10
  · rw [decN_lt h]; simp
  · rw [decN_ge h]; simp
theorem dig_injN {a b : Nat} (ha : a < 10) (hb : b < 10) (h : UInt8.ofNat (48 + a) = UInt8.ofNat (48 + b)) : a = b := by
  have e := congrArg UInt8.toNat h
  simp only [UInt8.toNat_ofNat'] at e
  omega
theorem dec_inj (u : Nat) : ∀ v : Nat, Lib.decDigits u = Lib.decDigits v → u = v := by
  induction u using Nat.strongRecOn with
  | ind u ih =>
    intro v h
    by_cases hu : u < 10
    · by_cases hv : v < 10
      · rw [decN_lt hu, decN_lt hv] at h
        injection h with h _
        exact dig_injN hu hv h
      · rw [decN_lt hu, decN_ge hv] at h
        have e := congrArg List.length h
        have := decN_pos (v / 10)
        simp only [List.length_append, List.length_cons, List.length_nil] at e
        omega
    · by_cases hv : v < 10
      · rw [decN_ge hu, decN_lt hv] at h
        have e := congrArg List.length h
        have := decN_pos (u / 10)
        simp only [List.length_append, List.length_cons, List.length_nil] at e
        omega
      · rw [decN_ge hu, decN_ge hv] at h
        obtain ⟨h1, h2⟩ := List.append_inj' h rfl
        have e := ih (u / 10) (by omega) _ h1
        injection h2 with h2 _
        have e2 := dig_injN (Nat.mod_lt _ (by decide)) (Nat.mod_lt _ (by decide)) h2
        omega
theorem decB_inj {u v : Nat} (h : decB u = decB v) : u = v := by
  unfold decB at h
  have e := congrArg (fun s : ByteArray => s.data.toList) h
  exact dec_inj _ _ (by simpa using e)
def idN (kind : ByteArray) (k : Nat) : ByteArray := (kind ++ dashB) ++ decB k
theorem idN_inj {kind : ByteArray} {u v : Nat} (h : idN kind u = idN kind v) : u = v := decB_inj (app_inj h)
theorem newID_idN (R : List Pr) (kind : ByteArray) : newID R kind = idN kind (numN R kind) := rfl

/-! ### keys -/
theorem kConn_list (a : ByteArray) : (kConn a).data.toList = [105, 98, 99, 47, 99, 111, 110, 110] ++ ([47] ++ a.data.toList) := by
  unfold kConn connP
  rw [dlist]
  rfl
theorem kChn_list (a : ByteArray) : (kChn a).data.toList = [105, 98, 99, 47, 99, 104] ++ ([97, 110, 47] ++ a.data.toList) := by
  unfold kChn chanP
  rw [dlist]
  rfl
theorem kConn_inj {a b : ByteArray} (h : kConn a = kConn b) : a = b := app_inj h
theorem kChn_inj {a b : ByteArray} (h : kChn a = kChn b) : a = b := app_inj h
theorem cn_ne_cli (a b : ByteArray) : kConn a ≠ kCli b := fun e => by
  have e := congrArg (fun s => s.data.toList) e
  simp only [kConn_list, kCli_list] at e
  simp at e
theorem cn_ne_cons (a b : ByteArray) (n : Nat) : kConn a ≠ kCons b n := fun e => by
  have e := congrArg (fun s => s.data.toList) e
  simp only [kConn_list, kCons_list] at e
  simp at e
theorem cn_ne_num (a b : ByteArray) : kConn a ≠ kNum b := fun e => by
  have e := congrArg (fun s => s.data.toList) e
  simp only [kConn_list, kNum_list] at e
  simp at e
theorem sClient_ne_conn : sClient ≠ sConn := by decide +kernel
theorem begB_of {p s : ByteArray} (r : List UInt8) (h : s.data.toList = p.data.toList ++ r) : begB p s = true := (begQ_iff _ _).2 ⟨r, h⟩
theorem conn_conn (a : ByteArray) : begB connP (kConn a) = true := begB_of a.data.toList (by unfold kConn; rw [dlist])
theorem conn_cli (a : ByteArray) : begB connP (kCli a) = false := by
  unfold begB
  rw [kCli_list]
  simp [Lib.hasPrefix, connP]
  rfl
theorem conn_cons (a : ByteArray) (n : Nat) : begB connP (kCons a n) = false := by
  unfold begB
  rw [kCons_list]
  simp [Lib.hasPrefix, connP]
  rfl
theorem conn_num (a : ByteArray) : begB connP (kNum a) = false := by
  unfold begB
  rw [kNum_list]
  simp [Lib.hasPrefix, connP]
  rfl
theorem ibc_conn (a : ByteArray) : begB ibcP (kConn a) = true := beg_ibc _ _ (by rw [kConn_list]; rfl)

/-! ### connections' bytes -/
def CnV.ok (v : CnV) : Prop := v.st < 18446744073709551616 ∧ v.cl.size ≤ 65535 ∧ v.cc.size ≤ 65535 ∧ v.ct.size ≤ 65535
theorem readCn_ok {l : List UInt8} {c : CnV} (h : readCn l = some c) : l = cnB c ∧ c.ok := by
  unfold readCn at h
  dsimp only at h
  split at h
  · next he =>
    injection h with h
    obtain ⟨e4, h4⟩ := rEnd_zero he
    obtain ⟨e3, h3⟩ := rB_ok e4
    obtain ⟨e2, h2⟩ := rB_ok e3
    obtain ⟨e1, h1⟩ := rB_ok e2
    obtain ⟨e0, h0⟩ := rN_ok e1
    have l1 := rB_le (rN l 0).2.1 (rN l 0).2.2
    have l2 := rB_le (rB (rN l 0).2.1 (rN l 0).2.2).2.1 (rB (rN l 0).2.1 (rN l 0).2.2).2.2
    have l3 := rB_le (rB (rB (rN l 0).2.1 (rN l 0).2.2).2.1 (rB (rN l 0).2.1 (rN l 0).2.2).2.2).2.1 (rB (rB (rN l 0).2.1 (rN l 0).2.2).2.1 (rB (rN l 0).2.1 (rN l 0).2.2).2.2).2.2
    subst h
    refine ⟨?_, rN_ltP _ _, ?_, ?_, ?_⟩
    · unfold cnB
      dsimp only
      rw [encB_take _ l1, encB_take _ l2, encB_take _ l3]
      rw [h4] at h3
      rw [h3] at h2
      rw [h2] at h1
      rw [h1] at h0
      refine h0.trans ?_
      simp only [List.append_assoc, List.append_nil]
    · simpa [ByteArray.size] using l1
    · simpa [ByteArray.size] using l2
    · simpa [ByteArray.size] using l3
  · cases h
theorem strB_bytes (s : ByteArray) : (⟨(strBytes s).toArray⟩ : ByteArray) = s := by
  unfold strBytes
  exact ByteArray.ext (by simp)
theorem readCn_cnB {c : CnV} (h : c.ok) : readCn (cnB c) = some c := by
  obtain ⟨h1, h2, h3, h4⟩ := h
  obtain ⟨st, cl, cc, ct⟩ := c
  dsimp only at h1 h2 h3 h4
  unfold readCn cnB
  simp only [List.append_assoc]
  have e := rB_encQ ct h4 []
  rw [List.append_nil] at e
  rw [rN_enc _ _ h1]
  simp only
  rw [rB_encQ _ h2]
  simp only
  rw [rB_encQ _ h3]
  simp only
  rw [e]
  simp only [strB_bytes]
  rfl
theorem getCn_some {R : List Pr} {id : ByteArray} {c : CnV} (h : getCn R id = some c) : identB id = true ∧ getL R (kConn id) = some (cnB c) ∧ c.ok := by
  unfold getCn at h
  split at h
  · next hi =>
    cases hl : getL R (kConn id) with
    | none => rw [hl] at h; cases h
    | some l =>
      rw [hl] at h
      obtain ⟨h1, h2⟩ := readCn_ok (show readCn l = some c from h)
      exact ⟨hi, by rw [h1], h2⟩
  · cases h
theorem getCn_of {R : List Pr} {id : ByteArray} {c : CnV} (hi : identB id = true) (h : getL R (kConn id) = some (cnB c)) (hok : c.ok) : getCn R id = some c := by
  unfold getCn
  rw [if_pos hi, h]
  exact readCn_cnB hok

/-! ### steps -/
def cnTryE (R : List Pr) (id other cconn : ByteArray) (ht now : Nat) (p : Pf) : Int :=
  if (getCl R id).isSome = true then (if identB other = true then (if identB cconn = true then verifyE R id ht now (kConn cconn) (cnB ⟨1, other, id, ⟨#[]⟩⟩) p else 40) else 40) else 100
def gotN (o : Option CnV) : CnV := o.getD CnV.none
def cnAckE (R : List Pr) (id cconn : ByteArray) (ht now : Nat) (p : Pf) : Int :=
  if (getCn R id).isSome = true then (if (gotN (getCn R id)).st = 1 then (if identB cconn = true then verifyE R (gotN (getCn R id)).cl ht now (kConn cconn) (cnB ⟨2, (gotN (getCn R id)).cc, (gotN (getCn R id)).cl, id⟩) p else 40) else 111) else 110
def cnConE (R : List Pr) (id : ByteArray) (ht now : Nat) (p : Pf) : Int :=
  if (getCn R id).isSome = true then (if (gotN (getCn R id)).st = 2 then verifyE R (gotN (getCn R id)).cl ht now (kConn (gotN (getCn R id)).ct) (cnB ⟨3, (gotN (getCn R id)).cc, (gotN (getCn R id)).cl, id⟩) p else 111) else 110
theorem gotN_ok {R : List Pr} {id : ByteArray} : (gotN (getCn R id)).ok := by
  cases hc : getCn R id with
  | none => exact ⟨by show 0 < _; decide, by show 0 ≤ _; omega, by show 0 ≤ _; omega, by show 0 ≤ _; omega⟩
  | some c => exact (getCn_some hc).2.2
theorem cnV_got (o : Option CnV) : cnV o = .tuple #[(gotN o).val, .bool o.isSome] := by cases o <;> rfl
def cnBeginP (R : List Pr) (id other : ByteArray) : Int × List Pr := (cnBeginE R id other, if cnBeginE R id other = 0 then madeCn R ⟨1, id, other, ⟨#[]⟩⟩ else R)
def cnTryP (R : List Pr) (id other cconn : ByteArray) (ht now : Nat) (p : Pf) : Int × List Pr := (cnTryE R id other cconn ht now p, if cnTryE R id other cconn ht now p = 0 then madeCn R ⟨2, id, other, cconn⟩ else R)
def cnAckP (R : List Pr) (id cconn : ByteArray) (ht now : Nat) (p : Pf) : Int × List Pr := (cnAckE R id cconn ht now p, if cnAckE R id cconn ht now p = 0 then setL (kConn id) (cnB ⟨3, (gotN (getCn R id)).cl, (gotN (getCn R id)).cc, cconn⟩) R else R)
def cnConP (R : List Pr) (id : ByteArray) (ht now : Nat) (p : Pf) : Int × List Pr := (cnConE R id ht now p, if cnConE R id ht now p = 0 then setL (kConn id) (cnB ⟨3, (gotN (getCn R id)).cl, (gotN (getCn R id)).cc, (gotN (getCn R id)).ct⟩) R else R)
/-- a step of layers 14 and 15 -/
def stepM15 (R : List Pr) (x : StepV) : Int × List Pr :=
  if x.m.kd = 2 then (createE (hdOf x.m.h) x.m.per x.now, if createE (hdOf x.m.h) x.m.per x.now = 0 then createR R (hdOf x.m.h) x.m.per else R)
  else if x.m.kd = 3 then updM R x.m.cl (nwOf x.m) x.now
  else if x.m.kd = 4 then misM R x.m.cl (nwOf x.m) (nw2Of x.m) x.now
  else if x.m.kd = 5 then cnBeginP R x.m.cl x.m.cc
  else if x.m.kd = 6 then cnTryP R x.m.cl x.m.cc x.m.cd x.m.ht x.now x.m.pf
  else if x.m.kd = 7 then cnAckP R x.m.cn x.m.cd x.m.ht x.now x.m.pf
  else if x.m.kd = 8 then cnConP R x.m.cn x.m.ht x.now x.m.pf
  else (83, R)
/-! ### what steps do to connections -/
theorem only_one {R : List Pr} (hr : Rise R) {key : ByteArray} {v : List UInt8} (h : getL R key = some v) : (R.filter (fun q => decide (q.1 = key))).length = 1 := by
  induction R with
  | nil => cases h
  | cons p R ih =>
    obtain ⟨h1, h2⟩ := List.pairwise_cons.1 hr
    by_cases e : p.1 = key
    · have : R.filter (fun q => decide (q.1 = key)) = [] := List.filter_eq_nil_iff.2 fun q hq => by
        have hl := h1 q hq
        simp only [decide_eq_true_eq]
        exact fun e2 => ltS_ne hl (e.trans e2.symm)
      rw [List.filter_cons, if_pos (by simpa using e), this]
      rfl
    · rw [getL_cons, if_neg e] at h
      rw [List.filter_cons, if_neg (by simpa using e)]
      exact ih h2 h
theorem len_split {f : Pr → Bool} : ∀ (l : List Pr), l.length = (l.filter f).length + (l.filter (fun q => !f q)).length
  | [] => rfl
  | q :: l => by
    have ih := len_split (f := f) l
    cases h : f q
    · simp [List.filter_cons, h]; omega
    · simp [List.filter_cons, h]; omega
theorem lenF_old {p : ByteArray → Bool} {key : ByteArray} (hp : p key = true) {R : List Pr} (hr : Rise R) {u : List UInt8} (hn : getL R key = some u) (v : List UInt8) : ((putL (key, some v) R).filter (fun q => p q.1)).length = (R.filter (fun q => p q.1)).length := by
  have h := ((putL_perm key (some v) R).filter (fun q => p q.1)).length_eq
  rw [h]
  have h1 := only_one hr hn
  have h2 := len_split (f := fun q => decide (q.1 = key)) (R.filter (fun q => p q.1))
  have h3 : (R.filter (fun q => p q.1)).filter (fun q => decide (q.1 = key)) = R.filter (fun q => decide (q.1 = key)) := by
    rw [List.filter_filter]
    apply List.filter_congr
    intro q _
    by_cases e : q.1 = key
    · simp [e, hp]
    · simp [e]
  rw [h3, h1] at h2
  rw [h2]
  simp only [List.filter_append, List.filter_cons, List.filter_nil, hp, if_true, List.length_append, List.length_cons, List.length_nil, List.filter_filter]
  congr 2
  apply List.filter_congr
  intro q _
  exact Bool.and_comm _ _
/-- nothing of a connection, nor their number, is touched -/
structure CnSame (R R2 : List Pr) : Prop where
  cn : ∀ a, getL R2 (kConn a) = getL R (kConn a)
  nu : getL R2 (kNum sConn) = getL R (kNum sConn)
  len : (R2.filter (fun p => begB connP p.1)).length = (R.filter (fun p => begB connP p.1)).length
theorem CnSame.refl (R : List Pr) : CnSame R R := ⟨fun _ => rfl, rfl, rfl⟩
theorem CnSame.trans {R R2 R3 : List Pr} (h : CnSame R R2) (k : CnSame R2 R3) : CnSame R R3 := ⟨fun a => (k.cn a).trans (h.cn a), k.nu.trans h.nu, k.len.trans h.len⟩
theorem CnSame.cli (R : List Pr) (a : ByteArray) (v : List UInt8) : CnSame R (setL (kCli a) v R) := ⟨fun b => getL_setL_ne _ _ _ _ (cn_ne_cli _ _), getL_setL_ne _ _ _ _ (cli_ne_num _ _).symm, lenF_setNo (p := begB connP) (conn_cli _) _ _⟩
theorem CnSame.cons (R : List Pr) (a : ByteArray) (n : Nat) (v : List UInt8) : CnSame R (setL (kCons a n) v R) := ⟨fun b => getL_setL_ne _ _ _ _ (cn_ne_cons _ _ _), getL_setL_ne _ _ _ _ (cons_ne_num _ _ _).symm, lenF_setNo (p := begB connP) (conn_cons _ _) _ _⟩
theorem kNum_inj {a b : ByteArray} (h : kNum a = kNum b) : a = b := app_inj h
theorem CnSame.num (R : List Pr) {k : ByteArray} (hk : k ≠ sConn) (v : List UInt8) : CnSame R (setL (kNum k) v R) := ⟨fun b => getL_setL_ne _ _ _ _ (cn_ne_num _ _), getL_setL_ne _ _ _ _ (fun e => hk (kNum_inj e).symm), lenF_setNo (p := begB connP) (conn_num _) _ _⟩
theorem CnSame.create (R : List Pr) (h : HdV) (pe : Nat) : CnSame R (createR R h pe) := ((CnSame.num R sClient_ne_conn _).trans (CnSame.cli _ _ _)).trans (CnSame.cons _ _ _ _)
theorem CnSame.upd (R : List Pr) (id : ByteArray) (u : NwW) (now : Nat) : CnSame R (updM R id u now).2 := by
  unfold updM
  split
  · split
    · split
      · dsimp only
        split
        · exact CnSame.cli _ _ _
        · exact CnSame.refl _
      · exact (CnSame.cons _ _ _ _).trans (CnSame.cli _ _ _)
    · exact CnSame.refl _
  · exact CnSame.refl _
theorem CnSame.mis (R : List Pr) (id : ByteArray) (u v : NwW) (now : Nat) : CnSame R (misM R id u v now).2 := by
  unfold misM
  split
  · split
    · split
      · exact CnSame.refl _
      · split
        · split
          · exact CnSame.cli _ _ _
          · exact CnSame.refl _
        · exact CnSame.refl _
    · exact CnSame.refl _
  · exact CnSame.refl _
/-- connections have numbers below theirs -/
structure CnN (R : List Pr) (j : Nat) : Prop where
  num : numN R sConn ≤ j
  fresh : ∀ k, numN R sConn ≤ k → k < 18446744073709551616 → getL R (kConn (idN sConn k)) = none
theorem CnN.same {R R2 : List Pr} {j : Nat} (h : CnN R j) (s : CnSame R R2) : CnN R2 j := by
  have e : numN R2 sConn = numN R sConn := by unfold numN; rw [s.nu]
  exact ⟨by rw [e]; exact h.num, fun k h1 h2 => by rw [s.cn]; exact h.fresh k (by rw [← e]; exact h1) h2⟩
theorem CnN.more {R : List Pr} {j j' : Nat} (h : CnN R j) (hj : j ≤ j') : CnN R j' := ⟨Nat.le_trans h.num hj, h.fresh⟩
theorem sConn_size : sConn.size = 4 := rfl
theorem newR_num {R : List Pr} {j : Nat} (h : numN R sConn ≤ j) (hj : j + 1 < 18446744073709551616) : numN (newR R sConn) sConn = numN R sConn + 1 := by
  have p1 : pairB (kNum sConn, be ((numN R sConn + 1) % 18446744073709551616) 8) = true := pairB_of (by rw [kNum_size]; omega) (by rw [kNum_size, sConn_size]; decide) (by rw [be_length]; decide)
  refine numN_of (by omega) ?_
  unfold newR
  rw [getL_setL _ _ _ _ p1, if_pos rfl, Nat.mod_eq_of_lt (by omega)]
theorem madeCn_num {R : List Pr} {j : Nat} (c : CnV) (h : numN R sConn ≤ j) (hj : j + 1 < 18446744073709551616) : numN (madeCn R c) sConn = numN R sConn + 1 := by
  rw [← newR_num h hj]
  unfold numN madeCn
  rw [getL_setL_ne _ _ _ _ (cn_ne_num _ _).symm]
theorem madeCn_get {R : List Pr} {c : CnV} {a : ByteArray} (ha : a ≠ newID R sConn) : getL (madeCn R c) (kConn a) = getL R (kConn a) := by
  unfold madeCn newR
  rw [getL_setL_ne _ _ _ _ (fun e => ha (kConn_inj e)), getL_setL_ne _ _ _ _ (cn_ne_num _ _)]
theorem CnN.made {R : List Pr} {j : Nat} (h : CnN R j) (hj : j + 1 < 18446744073709551616) (c : CnV) : CnN (madeCn R c) (j + 1) := by
  have e := madeCn_num c h.num hj
  refine ⟨by rw [e]; have := h.num; omega, fun k h1 h2 => ?_⟩
  rw [madeCn_get (fun e2 => by
    rw [newID_idN] at e2
    have := idN_inj e2
    omega)]
  exact h.fresh k (by omega) h2
theorem setCn_none {R : List Pr} {id a : ByteArray} {u v : List UInt8} (h : getL R (kConn id) = some u) (ha : getL R (kConn a) = none) : getL (setL (kConn id) v R) (kConn a) = none := by
  rw [getL_setL_ne _ _ _ _ (fun e => by rw [e, h] at ha; cases ha)]
  exact ha
theorem CnN.set {R : List Pr} {j : Nat} (h : CnN R j) {id : ByteArray} {u v : List UInt8} (hu : getL R (kConn id) = some u) : CnN (setL (kConn id) v R) j := by
  have e : numN (setL (kConn id) v R) sConn = numN R sConn := by
    unfold numN
    rw [getL_setL_ne _ _ _ _ (cn_ne_num _ _).symm]
  exact ⟨by rw [e]; exact h.num, fun k h1 h2 => setCn_none hu (h.fresh k (by omega) h2)⟩
theorem lenCn_made {R : List Pr} (hr : Rise R) {c : CnV} (hn : getL R (kConn (newID R sConn)) = none) : (R.filter (fun p => begB connP p.1)).length ≤ ((madeCn R c).filter (fun p => begB connP p.1)).length ∧ ((madeCn R c).filter (fun p => begB connP p.1)).length ≤ (R.filter (fun p => begB connP p.1)).length + 1 := by
  have e1 : ((newR R sConn).filter (fun p => begB connP p.1)).length = (R.filter (fun p => begB connP p.1)).length := lenF_setNo (p := begB connP) (conn_num _) _ _
  have hn2 : getL (newR R sConn) (kConn (newID R sConn)) = none := by
    unfold newR
    rw [getL_setL_ne _ _ _ _ (cn_ne_num _ _)]
    exact hn
  have hr2 : Rise (newR R sConn) := hr.setL _ _
  unfold madeCn
  generalize newR R sConn = R1 at *
  generalize newID R sConn = id at *
  unfold setL
  split
  · rw [lenF_new (p := begB connP) (conn_conn _) hr2 hn2, e1]
    omega
  · rw [e1]
    omega
theorem lenCn_set {R : List Pr} (hr : Rise R) {id : ByteArray} {u v : List UInt8} (hu : getL R (kConn id) = some u) : ((setL (kConn id) v R).filter (fun p => begB connP p.1)).length = (R.filter (fun p => begB connP p.1)).length := by
  unfold setL
  split
  · exact lenF_old (p := begB connP) (conn_conn _) hr hu v
  · rfl
/-- what a step may do to the connection that it names -/
def CnTurn (R R2 : List Pr) (e : Int) (id nm : ByteArray) (v : List UInt8) : Prop :=
  e = 0 ∧ id = nm ∧ identB id = true ∧ ∃ c c2, readCn v = some c ∧ getCn R2 id = some c2 ∧ c2.st = 3 ∧ c2.cl = c.cl ∧ c2.cc = c.cc ∧ (c.st = 1 ∨ c.st = 2 ∧ c2.ct = c.ct)
structure CnGo (R R2 : List Pr) (e : Int) (nm : ByteArray) (j : Nat) : Prop where
  n : CnN R2 (j + 1)
  lo : (R.filter (fun p => begB connP p.1)).length ≤ (R2.filter (fun p => begB connP p.1)).length
  hi : (R2.filter (fun p => begB connP p.1)).length ≤ (R.filter (fun p => begB connP p.1)).length + 1
  no : e ≠ 0 → (R2.filter (fun p => begB connP p.1)).length = (R.filter (fun p => begB connP p.1)).length
  all : ∀ id v, getL R (kConn id) = some v → ∃ v2, getL R2 (kConn id) = some v2 ∧ (v2 = v ∨ CnTurn R R2 e id nm v)
theorem CnGo.same {R R2 : List Pr} {j : Nat} (h : CnN R j) (s : CnSame R R2) (e : Int) (nm : ByteArray) : CnGo R R2 e nm j :=
  ⟨(h.same s).more (Nat.le_succ _), Nat.le_of_eq s.len.symm, by rw [s.len]; omega, fun _ => s.len, fun id v hv => ⟨v, by rw [s.cn]; exact hv, .inl rfl⟩⟩
theorem CnGo.made {R : List Pr} {j : Nat} (hr : Rise R) (h : CnN R j) (hj : j + 1 < 18446744073709551616) (c : CnV) (nm : ByteArray) : CnGo R (madeCn R c) 0 nm j := by
  have hn : getL R (kConn (newID R sConn)) = none := h.fresh _ (Nat.le_refl _) (by have := h.num; omega)
  obtain ⟨l1, l2⟩ := lenCn_made hr (c := c) hn
  exact ⟨h.made hj c, l1, l2, fun h => absurd rfl h, fun id v hv => ⟨v, by
    rw [madeCn_get (fun e => by rw [e, hn] at hv; cases hv)]
    exact hv, .inl rfl⟩⟩
theorem CnGo.turn {R : List Pr} {j : Nat} (hr : Rise R) (h : CnN R j) {id : ByteArray} {c c2 : CnV} (hc : getCn R id = some c) (hok : c2.ok) (h3 : c2.st = 3) (h4 : c2.cl = c.cl) (h5 : c2.cc = c.cc) (h6 : c.st = 1 ∨ c.st = 2 ∧ c2.ct = c.ct) : CnGo R (setL (kConn id) (cnB c2) R) 0 id j := by
  obtain ⟨g1, g2, g3⟩ := getCn_some hc
  have el := lenCn_set hr g2 (v := cnB c2)
  refine ⟨(h.set g2).more (Nat.le_succ _), Nat.le_of_eq el.symm, by rw [el]; omega, fun _ => el, fun a v hv => ?_⟩
  by_cases hp : pairB (kConn id, cnB c2) = true
  · rw [getL_setL _ _ _ _ hp]
    by_cases ha : a = id
    · subst ha
      rw [if_pos rfl]
      rw [g2] at hv
      injection hv with hv
      refine ⟨_, rfl, .inr ⟨rfl, rfl, g1, c, c2, ?_, ?_, h3, h4, h5, h6⟩⟩
      · rw [← hv]; exact readCn_cnB g3
      · exact getCn_of g1 (by rw [getL_setL _ _ _ _ hp, if_pos rfl]) hok
    · rw [if_neg (fun e => ha (kConn_inj e))]
      exact ⟨v, hv, .inl rfl⟩
  · unfold setL
    rw [if_neg hp]
    exact ⟨v, hv, .inl rfl⟩
theorem CnN.start {R : List Pr} (hr : Rise R) (h : R.filter (fun p => begB ibcP p.1) = []) : CnN R 0 := by
  have e : numN R sConn = 0 := by
    unfold numN
    rw [untouched hr h (ibc_num _)]
    rfl
  exact ⟨Nat.le_of_eq e, fun k _ _ => untouched hr h (ibc_conn _)⟩
end Go.Proofs.YtmphegeiclgjbaaGreatDoor
