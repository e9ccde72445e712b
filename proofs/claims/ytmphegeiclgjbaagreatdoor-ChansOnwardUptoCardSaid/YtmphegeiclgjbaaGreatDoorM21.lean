/- Texts joined: ChD, ChS0. -/
import Derived.Test.YtmphegeiclgjbaaGreatDoorM20
namespace Go.Proofs.YtmphegeiclgjbaaGreatDoor
set_option maxRecDepth 100000
open Go Go.RowKit
set_option linter.unusedVariables false

theorem next_list (a : ByteArray) : (nextP ++ a).data.toList = [105, 98, 99, 47, 110, 101] ++ ([120, 116, 47] ++ a.data.toList) := by rw [dlist]; rfl
theorem recv_list (a : ByteArray) : (recvP ++ a).data.toList = [105, 98, 99, 47, 114, 101] ++ ([99, 118, 47] ++ a.data.toList) := by rw [dlist]; rfl
theorem acked_list (a : ByteArray) : (ackedP ++ a).data.toList = [105, 98, 99, 47, 97, 99] ++ ([107, 101, 100, 47] ++ a.data.toList) := by rw [dlist]; rfl
theorem neL {s t : ByteArray} (h : s.data.toList ≠ t.data.toList) : s ≠ t := fun e => h (by rw [e])
theorem ch_ne_cli (a b : ByteArray) : kChn a ≠ kCli b := neL (by rw [kChn_list, kCli_list]; simp)
theorem ch_ne_cons (a b : ByteArray) (n : Nat) : kChn a ≠ kCons b n := neL (by rw [kChn_list, kCons_list]; simp)
theorem ch_ne_num (a b : ByteArray) : kChn a ≠ kNum b := neL (by rw [kChn_list, kNum_list]; simp)
theorem ch_ne_conn (a b : ByteArray) : kChn a ≠ kConn b := neL (by rw [kChn_list, kConn_list]; simp)
theorem ch_ne_next (a b : ByteArray) : kChn a ≠ nextP ++ b := neL (by rw [kChn_list, next_list]; simp)
theorem ch_ne_recv (a b : ByteArray) : kChn a ≠ recvP ++ b := neL (by rw [kChn_list, recv_list]; simp)
theorem ch_ne_acked (a b : ByteArray) : kChn a ≠ ackedP ++ b := neL (by rw [kChn_list, acked_list]; simp)
theorem chan_chan (a : ByteArray) : begB chanP (kChn a) = true := begB_of a.data.toList (by unfold kChn; rw [dlist])
theorem begF {p s : ByteArray} (h : ¬ ∃ r, s.data.toList = p.data.toList ++ r) : begB p s = false := Bool.eq_false_iff.2 fun e => h ((begQ_iff _ _).1 e)
theorem chan_cli (a : ByteArray) : begB chanP (kCli a) = false := begF (by rw [kCli_list]; rintro ⟨r, e⟩; simp [chanP] at e)
theorem chan_cons (a : ByteArray) (n : Nat) : begB chanP (kCons a n) = false := begF (by rw [kCons_list]; rintro ⟨r, e⟩; simp [chanP] at e)
theorem chan_num (a : ByteArray) : begB chanP (kNum a) = false := begF (by rw [kNum_list]; rintro ⟨r, e⟩; simp [chanP] at e)
theorem chan_conn (a : ByteArray) : begB chanP (kConn a) = false := begF (by rw [kConn_list]; rintro ⟨r, e⟩; simp [chanP] at e)
theorem chan_next (a : ByteArray) : begB chanP (nextP ++ a) = false := begF (by rw [next_list]; rintro ⟨r, e⟩; simp [chanP] at e)
theorem chan_recv (a : ByteArray) : begB chanP (recvP ++ a) = false := begF (by rw [recv_list]; rintro ⟨r, e⟩; simp [chanP] at e)
theorem chan_acked (a : ByteArray) : begB chanP (ackedP ++ a) = false := begF (by rw [acked_list]; rintro ⟨r, e⟩; simp [chanP] at e)
theorem beg_chan {s : ByteArray} (h : begB chanP s = true) : ∃ a, s = kChn a := by
  obtain ⟨r, hr⟩ := (begQ_iff _ _).1 h
  refine ⟨⟨r.toArray⟩, ByteArray.ext ?_⟩
  have : s.data.toList = (kChn ⟨r.toArray⟩).data.toList := by
    unfold kChn
    rw [dlist]
    exact hr
  simpa using congrArg List.toArray this
theorem ibc_chn (a : ByteArray) : begB ibcP (kChn a) = true := beg_ibc _ _ (by rw [kChn_list]; rfl)
theorem sChan_ne : sClient ≠ sChan ∧ sConn ≠ sChan := by decide +kernel
theorem rF_encC (yes : Bool) (rest : List UInt8) : rF (fb yes :: rest) 0 = (yes, rest, 0) := by
  cases yes <;> rfl
theorem readCh_chB {c : ChV} (h : c.ok) : readCh (chB c) = some c := by
  obtain ⟨h1, h2, h3, h4, h5, h6⟩ := h
  obtain ⟨st, od, po, cp, cn, cc, ve⟩ := c
  dsimp only at h1 h2 h3 h4 h5 h6
  unfold readCh chB
  simp only [List.append_assoc, List.cons_append, List.nil_append]
  have e := rB_encQ ve h6 []
  rw [List.append_nil] at e
  rw [rN_enc _ _ h1]
  simp only
  rw [rF_encC]
  simp only
  rw [rB_encQ _ h2]
  simp only
  rw [rB_encQ _ h3]
  simp only
  rw [rB_encQ _ h4]
  simp only
  rw [rB_encQ _ h5]
  simp only
  rw [e]
  simp only [strB_bytes]
  rfl
theorem getCh_of {R : List Pr} {id : ByteArray} {c : ChV} (hi : identB id = true) (h : getL R (kChn id) = some (chB c)) (hok : c.ok) : getCh R id = some c := by
  unfold getCh
  rw [if_pos hi, h]
  exact readCh_chB hok
theorem inSt_some {R : List Pr} {id : ByteArray} {st : Nat} (h : inStE R id st = 0) : ∃ c, getCh R id = some c ∧ c.st = st ∧ inStV R id st = c := by
  have h0 := h
  unfold inStE at h
  cases hc : getCh R id with
  | none => rw [hc] at h; cases h
  | some c =>
    rw [hc] at h
    dsimp only at h
    split at h
    · next hs => exact ⟨c, rfl, hs, by unfold inStV; rw [if_pos h0, hc]; rfl⟩
    · cases h
/-- nothing of a channel is touched -/
structure ChSame (R R2 : List Pr) : Prop where
  ch : ∀ a, getL R2 (kChn a) = getL R (kChn a)
  nx : ∀ a, getL R2 (nextP ++ a) = getL R (nextP ++ a)
  rv : ∀ a, getL R2 (recvP ++ a) = getL R (recvP ++ a)
  ak : ∀ a, getL R2 (ackedP ++ a) = getL R (ackedP ++ a)
  nu : getL R2 (kNum sChan) = getL R (kNum sChan)
  len : (R2.filter (fun p => begB chanP p.1)).length = (R.filter (fun p => begB chanP p.1)).length
theorem ChSame.refl (R : List Pr) : ChSame R R := ⟨fun _ => rfl, fun _ => rfl, fun _ => rfl, fun _ => rfl, rfl, rfl⟩
theorem ChSame.trans {R R2 R3 : List Pr} (h : ChSame R R2) (k : ChSame R2 R3) : ChSame R R3 := ⟨fun a => (k.ch a).trans (h.ch a), fun a => (k.nx a).trans (h.nx a), fun a => (k.rv a).trans (h.rv a), fun a => (k.ak a).trans (h.ak a), k.nu.trans h.nu, k.len.trans h.len⟩
theorem ChSame.set {R : List Pr} {key : ByteArray} (h1 : ∀ a, kChn a ≠ key) (h2 : ∀ a, nextP ++ a ≠ key) (h3 : ∀ a, recvP ++ a ≠ key) (h4 : ∀ a, ackedP ++ a ≠ key) (h5 : kNum sChan ≠ key) (h6 : begB chanP key = false) (v : List UInt8) : ChSame R (setL key v R) :=
  ⟨fun a => getL_setL_ne _ _ _ _ (h1 a), fun a => getL_setL_ne _ _ _ _ (h2 a), fun a => getL_setL_ne _ _ _ _ (h3 a), fun a => getL_setL_ne _ _ _ _ (h4 a), getL_setL_ne _ _ _ _ h5, lenF_setNo (p := begB chanP) h6 _ _⟩
theorem ChSame.cli (R : List Pr) (a : ByteArray) (v : List UInt8) : ChSame R (setL (kCli a) v R) :=
  ChSame.set (fun b => ch_ne_cli _ _) (fun b => neL (by rw [next_list, kCli_list]; simp)) (fun b => neL (by rw [recv_list, kCli_list]; simp)) (fun b => neL (by rw [acked_list, kCli_list]; simp)) (neL (by rw [kNum_list, kCli_list]; simp)) (chan_cli _) _
theorem ChSame.cons (R : List Pr) (a : ByteArray) (n : Nat) (v : List UInt8) : ChSame R (setL (kCons a n) v R) :=
  ChSame.set (fun b => ch_ne_cons _ _ _) (fun b => neL (by rw [next_list, kCons_list]; simp)) (fun b => neL (by rw [recv_list, kCons_list]; simp)) (fun b => neL (by rw [acked_list, kCons_list]; simp)) (neL (by rw [kNum_list, kCons_list]; simp)) (chan_cons _ _) _
theorem ChSame.conn (R : List Pr) (a : ByteArray) (v : List UInt8) : ChSame R (setL (kConn a) v R) :=
  ChSame.set (fun b => ch_ne_conn _ _) (fun b => neL (by rw [next_list, kConn_list]; simp)) (fun b => neL (by rw [recv_list, kConn_list]; simp)) (fun b => neL (by rw [acked_list, kConn_list]; simp)) (neL (by rw [kNum_list, kConn_list]; simp)) (chan_conn _) _
theorem nx_ne_num (a b : ByteArray) : nextP ++ a ≠ kNum b := neL (by rw [next_list, kNum_list]; simp)
theorem rv_ne_num (a b : ByteArray) : recvP ++ a ≠ kNum b := neL (by rw [recv_list, kNum_list]; simp)
theorem ak_ne_num (a b : ByteArray) : ackedP ++ a ≠ kNum b := neL (by rw [acked_list, kNum_list]; simp)
theorem ChSame.num (R : List Pr) {k : ByteArray} (hk : k ≠ sChan) (v : List UInt8) : ChSame R (setL (kNum k) v R) :=
  ChSame.set (fun b => ch_ne_num _ _) (fun b => nx_ne_num _ _) (fun b => rv_ne_num _ _) (fun b => ak_ne_num _ _) (fun e => hk (kNum_inj e).symm) (chan_num _) _
theorem ChSame.create (R : List Pr) (h : HdV) (pe : Nat) : ChSame R (createR R h pe) := ((ChSame.num R sChan_ne.1 _).trans (ChSame.cli _ _ _)).trans (ChSame.cons _ _ _ _)
theorem ChSame.madeCn (R : List Pr) (c : CnV) : ChSame R (madeCn R c) := (ChSame.num R sChan_ne.2 _).trans (ChSame.conn _ _ _)
theorem ChSame.upd (R : List Pr) (id : ByteArray) (u : NwW) (now : Nat) : ChSame R (updM R id u now).2 := by
  unfold updM
  split
  · split
    · split
      · dsimp only
        split
        · exact ChSame.cli _ _ _
        · exact ChSame.refl _
      · exact (ChSame.cons _ _ _ _).trans (ChSame.cli _ _ _)
    · exact ChSame.refl _
  · exact ChSame.refl _
theorem ChSame.mis (R : List Pr) (id : ByteArray) (u v : NwW) (now : Nat) : ChSame R (misM R id u v now).2 := by
  unfold misM
  split
  · split
    · split
      · exact ChSame.refl _
      · split
        · split
          · exact ChSame.cli _ _ _
          · exact ChSame.refl _
        · exact ChSame.refl _
    · exact ChSame.refl _
  · exact ChSame.refl _
/-- channels have numbers below theirs; each has its three numbers, which are 1 -/
structure ChN (R : List Pr) (j : Nat) : Prop where
  num : numN R sChan ≤ j
  fresh : ∀ k, numN R sChan ≤ k → k < 18446744073709551616 → getL R (kChn (idN sChan k)) = none
  one : ∀ a v, getL R (kChn a) = some v → getL R (nextP ++ a) = some (be 1 8) ∧ getL R (recvP ++ a) = some (be 1 8) ∧ getL R (ackedP ++ a) = some (be 1 8)
theorem ChN.same {R R2 : List Pr} {j : Nat} (h : ChN R j) (s : ChSame R R2) : ChN R2 j := by
  have e : numN R2 sChan = numN R sChan := by unfold numN; rw [s.nu]
  exact ⟨by rw [e]; exact h.num, fun k h1 h2 => by rw [s.ch]; exact h.fresh k (by rw [← e]; exact h1) h2, fun a v hv => by rw [s.nx, s.rv, s.ak]; exact h.one a v (by rw [← s.ch]; exact hv)⟩
theorem ChN.more {R : List Pr} {j j' : Nat} (h : ChN R j) (hj : j ≤ j') : ChN R j' := ⟨Nat.le_trans h.num hj, h.fresh, h.one⟩
theorem nx_ne_ch (a b : ByteArray) : nextP ++ a ≠ kChn b := (ch_ne_next b a).symm
theorem rv_ne_ch (a b : ByteArray) : recvP ++ a ≠ kChn b := (ch_ne_recv b a).symm
theorem ak_ne_ch (a b : ByteArray) : ackedP ++ a ≠ kChn b := (ch_ne_acked b a).symm
theorem nx_ne_rv (a b : ByteArray) : nextP ++ a ≠ recvP ++ b := neL (by rw [next_list, recv_list]; simp)
theorem nx_ne_ak (a b : ByteArray) : nextP ++ a ≠ ackedP ++ b := neL (by rw [next_list, acked_list]; simp)
theorem rv_ne_ak (a b : ByteArray) : recvP ++ a ≠ ackedP ++ b := neL (by rw [recv_list, acked_list]; simp)
theorem madeCh_ch {R : List Pr} {c : ChV} {a : ByteArray} (ha : a ≠ newID R sChan) : getL (madeCh R c) (kChn a) = getL R (kChn a) := by
  unfold madeCh newR
  rw [getL_setL_ne _ _ _ _ (ch_ne_acked _ _), getL_setL_ne _ _ _ _ (ch_ne_recv _ _), getL_setL_ne _ _ _ _ (ch_ne_next _ _), getL_setL_ne _ _ _ _ (fun e => ha (kChn_inj e)), getL_setL_ne _ _ _ _ (ch_ne_num _ _)]
theorem madeCh_nx {R : List Pr} {c : ChV} {a : ByteArray} (ha : a ≠ newID R sChan) : getL (madeCh R c) (nextP ++ a) = getL R (nextP ++ a) ∧ getL (madeCh R c) (recvP ++ a) = getL R (recvP ++ a) ∧ getL (madeCh R c) (ackedP ++ a) = getL R (ackedP ++ a) := by
  unfold madeCh newR
  refine ⟨?_, ?_, ?_⟩
  · rw [getL_setL_ne _ _ _ _ (nx_ne_ak _ _), getL_setL_ne _ _ _ _ (nx_ne_rv _ _), getL_setL_ne _ _ _ _ (fun e => ha (app_inj e)), getL_setL_ne _ _ _ _ (nx_ne_ch _ _), getL_setL_ne _ _ _ _ (nx_ne_num _ _)]
  · rw [getL_setL_ne _ _ _ _ (rv_ne_ak _ _), getL_setL_ne _ _ _ _ (fun e => ha (app_inj e)), getL_setL_ne _ _ _ _ (nx_ne_rv _ _).symm, getL_setL_ne _ _ _ _ (rv_ne_ch _ _), getL_setL_ne _ _ _ _ (rv_ne_num _ _)]
  · rw [getL_setL_ne _ _ _ _ (fun e => ha (app_inj e)), getL_setL_ne _ _ _ _ (rv_ne_ak _ _).symm, getL_setL_ne _ _ _ _ (nx_ne_ak _ _).symm, getL_setL_ne _ _ _ _ (ak_ne_ch _ _), getL_setL_ne _ _ _ _ (ak_ne_num _ _)]
theorem madeCh_one (R : List Pr) (c : ChV) : getL (madeCh R c) (nextP ++ newID R sChan) = some (be 1 8) ∧ getL (madeCh R c) (recvP ++ newID R sChan) = some (be 1 8) ∧ getL (madeCh R c) (ackedP ++ newID R sChan) = some (be 1 8) := by
  have hl := newID_len R sChan
  have z4 : sChan.size = 4 := rfl
  have b8 : (be 1 8).length ≤ 65535 := by rw [be_length]; decide
  have p1 : pairB (nextP ++ newID R sChan, be 1 8) = true := pairB_of (by rw [ByteArray.size_append, show nextP.size = 9 from rfl]; omega) (by rw [ByteArray.size_append, show nextP.size = 9 from rfl]; omega) b8
  have p2 : pairB (recvP ++ newID R sChan, be 1 8) = true := pairB_of (by rw [ByteArray.size_append, show recvP.size = 9 from rfl]; omega) (by rw [ByteArray.size_append, show recvP.size = 9 from rfl]; omega) b8
  have p3 : pairB (ackedP ++ newID R sChan, be 1 8) = true := pairB_of (by rw [ByteArray.size_append, show ackedP.size = 10 from rfl]; omega) (by rw [ByteArray.size_append, show ackedP.size = 10 from rfl]; omega) b8
  unfold madeCh
  refine ⟨?_, ?_, ?_⟩
  · rw [getL_setL_ne _ _ _ _ (nx_ne_ak _ _), getL_setL_ne _ _ _ _ (nx_ne_rv _ _), getL_setL _ _ _ _ p1, if_pos rfl]
  · rw [getL_setL_ne _ _ _ _ (rv_ne_ak _ _), getL_setL _ _ _ _ p2, if_pos rfl]
  · rw [getL_setL _ _ _ _ p3, if_pos rfl]
theorem madeCh_num {R : List Pr} {j : Nat} (c : ChV) (h : numN R sChan ≤ j) (hj : j + 1 < 18446744073709551616) : numN (madeCh R c) sChan = numN R sChan + 1 := by
  have p1 : pairB (kNum sChan, be ((numN R sChan + 1) % 18446744073709551616) 8) = true := pairB_of (by rw [kNum_size]; omega) (by rw [kNum_size, show sChan.size = 4 from rfl]; decide) (by rw [be_length]; decide)
  refine numN_of (by omega) ?_
  unfold madeCh newR
  rw [getL_setL_ne _ _ _ _ (ak_ne_num _ _).symm, getL_setL_ne _ _ _ _ (rv_ne_num _ _).symm, getL_setL_ne _ _ _ _ (nx_ne_num _ _).symm, getL_setL_ne _ _ _ _ (ch_ne_num _ _).symm, getL_setL _ _ _ _ p1, if_pos rfl, Nat.mod_eq_of_lt (by omega)]
theorem ChN.made {R : List Pr} {j : Nat} (h : ChN R j) (hj : j + 1 < 18446744073709551616) (c : ChV) : ChN (madeCh R c) (j + 1) := by
  have e := madeCh_num c h.num hj
  refine ⟨by rw [e]; have := h.num; omega, fun k h1 h2 => ?_, fun a v hv => ?_⟩
  · rw [madeCh_ch (fun e2 => by
      rw [newID_idN] at e2
      have := idN_inj e2
      omega)]
    exact h.fresh k (by omega) h2
  · by_cases ha : a = newID R sChan
    · rw [ha]; exact madeCh_one R c
    · obtain ⟨n1, n2, n3⟩ := madeCh_nx (c := c) ha
      rw [n1, n2, n3]
      exact h.one a v (by rw [← madeCh_ch (c := c) ha]; exact hv)
theorem ChN.set {R : List Pr} {j : Nat} (h : ChN R j) {id : ByteArray} {u v : List UInt8} (hu : getL R (kChn id) = some u) : ChN (setL (kChn id) v R) j := by
  have e : numN (setL (kChn id) v R) sChan = numN R sChan := by
    unfold numN
    rw [getL_setL_ne _ _ _ _ (ch_ne_num _ _).symm]
  refine ⟨by rw [e]; exact h.num, fun k h1 h2 => ?_, fun a x hx => ?_⟩
  · have hf := h.fresh k (by omega) h2
    rw [getL_setL_ne _ _ _ _ (fun e => by rw [e, hu] at hf; cases hf)]
    exact hf
  · rw [getL_setL_ne _ _ _ _ (nx_ne_ch _ _), getL_setL_ne _ _ _ _ (rv_ne_ch _ _), getL_setL_ne _ _ _ _ (ak_ne_ch _ _)]
    by_cases ha : a = id
    · rw [ha]; exact h.one id u hu
    · exact h.one a x (by rw [← getL_setL_ne _ v R _ (fun e => ha (kChn_inj e))]; exact hx)
theorem lenCh_set {R : List Pr} (hr : Rise R) {id : ByteArray} {u v : List UInt8} (hu : getL R (kChn id) = some u) : ((setL (kChn id) v R).filter (fun p => begB chanP p.1)).length = (R.filter (fun p => begB chanP p.1)).length := by
  unfold setL
  split
  · exact lenF_old (p := begB chanP) (chan_chan _) hr hu v
  · rfl
theorem lenCh_made {R : List Pr} (hr : Rise R) {c : ChV} (hn : getL R (kChn (newID R sChan)) = none) : (R.filter (fun p => begB chanP p.1)).length ≤ ((madeCh R c).filter (fun p => begB chanP p.1)).length ∧ ((madeCh R c).filter (fun p => begB chanP p.1)).length ≤ (R.filter (fun p => begB chanP p.1)).length + 1 := by
  have e1 : ((newR R sChan).filter (fun p => begB chanP p.1)).length = (R.filter (fun p => begB chanP p.1)).length := lenF_setNo (p := begB chanP) (chan_num _) _ _
  have hn2 : getL (newR R sChan) (kChn (newID R sChan)) = none := by
    unfold newR
    rw [getL_setL_ne _ _ _ _ (ch_ne_num _ _)]
    exact hn
  have hr2 : Rise (newR R sChan) := hr.setL _ _
  have e2 : ((madeCh R c).filter (fun p => begB chanP p.1)).length = ((setL (kChn (newID R sChan)) (chB c) (newR R sChan)).filter (fun p => begB chanP p.1)).length := by
    unfold madeCh
    rw [lenF_setNo (p := begB chanP) (chan_acked _), lenF_setNo (p := begB chanP) (chan_recv _), lenF_setNo (p := begB chanP) (chan_next _)]
  rw [e2]
  generalize newR R sChan = R1 at *
  generalize newID R sChan = id at *
  unfold setL
  split
  · rw [lenF_new (p := begB chanP) (chan_chan _) hr2 hn2, e1]
    omega
  · rw [e1]
    omega
/-- what a step may do to the channel that it names -/
def ChTurn (R2 : List Pr) (e : Int) (id nm : ByteArray) (v : List UInt8) : Prop :=
  e = 0 ∧ id = nm ∧ identB id = true ∧ ∃ c c2, readCh v = some c ∧ getCh R2 id = some c2 ∧ c2.od = c.od ∧ c2.po = c.po ∧ c2.cp = c.cp ∧ c2.cn = c.cn ∧ c2.ve = c.ve ∧
    ((c2.st = 3 ∧ c.st = 1) ∨ (c2.st = 3 ∧ c.st = 2 ∧ c2.cc = c.cc) ∨ (c2.st = 4 ∧ c.st = 3 ∧ c2.cc = c.cc))
structure ChGo (R R2 : List Pr) (e : Int) (nm : ByteArray) (j : Nat) : Prop where
  n : ChN R2 (j + 1)
  lo : (R.filter (fun p => begB chanP p.1)).length ≤ (R2.filter (fun p => begB chanP p.1)).length
  hi : (R2.filter (fun p => begB chanP p.1)).length ≤ (R.filter (fun p => begB chanP p.1)).length + 1
  no : e ≠ 0 → (R2.filter (fun p => begB chanP p.1)).length = (R.filter (fun p => begB chanP p.1)).length
  all : ∀ id v, getL R (kChn id) = some v → ∃ v2, getL R2 (kChn id) = some v2 ∧ (v2 = v ∨ ChTurn R2 e id nm v)
theorem ChGo.same {R R2 : List Pr} {j : Nat} (h : ChN R j) (s : ChSame R R2) (e : Int) (nm : ByteArray) : ChGo R R2 e nm j :=
  ⟨(h.same s).more (Nat.le_succ _), Nat.le_of_eq s.len.symm, by rw [s.len]; omega, fun _ => s.len, fun id v hv => ⟨v, by rw [s.ch]; exact hv, .inl rfl⟩⟩
theorem ChGo.made {R : List Pr} {j : Nat} (hr : Rise R) (h : ChN R j) (hj : j + 1 < 18446744073709551616) (c : ChV) (nm : ByteArray) : ChGo R (madeCh R c) 0 nm j := by
  have hn : getL R (kChn (newID R sChan)) = none := h.fresh _ (Nat.le_refl _) (by have := h.num; omega)
  obtain ⟨l1, l2⟩ := lenCh_made hr (c := c) hn
  exact ⟨h.made hj c, l1, l2, fun h => absurd rfl h, fun id v hv => ⟨v, by
    rw [madeCh_ch (fun e => by rw [e, hn] at hv; cases hv)]
    exact hv, .inl rfl⟩⟩
theorem ChGo.turn {R : List Pr} {j : Nat} (hr : Rise R) (h : ChN R j) {id : ByteArray} {c c2 : ChV} (hc : getCh R id = some c) (hok : c2.ok) (h1 : c2.od = c.od) (h2 : c2.po = c.po) (h3 : c2.cp = c.cp) (h4 : c2.cn = c.cn) (h5 : c2.ve = c.ve)
    (h6 : (c2.st = 3 ∧ c.st = 1) ∨ (c2.st = 3 ∧ c.st = 2 ∧ c2.cc = c.cc) ∨ (c2.st = 4 ∧ c.st = 3 ∧ c2.cc = c.cc)) : ChGo R (setL (kChn id) (chB c2) R) 0 id j := by
  obtain ⟨g1, g2, g3⟩ := getCh_some hc
  have el := lenCh_set hr g2 (v := chB c2)
  refine ⟨(h.set g2).more (Nat.le_succ _), Nat.le_of_eq el.symm, by rw [el]; omega, fun _ => el, fun a v hv => ?_⟩
  by_cases hp : pairB (kChn id, chB c2) = true
  · rw [getL_setL _ _ _ _ hp]
    by_cases ha : a = id
    · subst ha
      rw [if_pos rfl]
      rw [g2] at hv
      injection hv with hv
      refine ⟨_, rfl, .inr ⟨rfl, rfl, g1, c, c2, ?_, ?_, h1, h2, h3, h4, h5, h6⟩⟩
      · rw [← hv]; exact readCh_chB g3
      · exact getCh_of g1 (by rw [getL_setL _ _ _ _ hp, if_pos rfl]) hok
    · rw [if_neg (fun e => ha (kChn_inj e))]
      exact ⟨v, hv, .inl rfl⟩
  · unfold setL
    rw [if_neg hp]
    exact ⟨v, hv, .inl rfl⟩
theorem ChGo.fol {R : List Pr} {j : Nat} (hr : Rise R) (h : ChN R j) (id : ByteArray) (fm to ht now : Nat) (p : Pf) (hst : (fm = 2 ∧ to = 3) ∨ (fm = 3 ∧ to = 4)) : ChGo R (chFolP R id fm to ht now p).2 (chFolP R id fm to ht now p).1 id j := by
  unfold chFolP
  dsimp only
  split
  · next e =>
    rw [e]
    unfold chFolE at e
    split at e
    · next h0 =>
      obtain ⟨c, hc, hs, hv⟩ := inSt_some h0
      obtain ⟨_, _, g3⟩ := getCh_some hc
      rw [hv]
      refine ChGo.turn hr h hc ⟨by show to < _; omega, g3.2.1, g3.2.2.1, g3.2.2.2.1, g3.2.2.2.2.1, g3.2.2.2.2.2⟩ rfl rfl rfl rfl rfl ?_
      rcases hst with ⟨h1, h2⟩ | ⟨h1, h2⟩
      · exact .inr (.inl ⟨h2, by rw [hs, h1], rfl⟩)
      · exact .inr (.inr ⟨h2, by rw [hs, h1], rfl⟩)
    · exact absurd e (by assumption)
  · exact ChGo.same h (ChSame.refl _) _ _
theorem ch_step {R : List Pr} {x : StepV} {j : Nat} (hr : Rise R) (h : ChN R j) (hj : j + 1 < 18446744073709551616) : ChGo R (stepM16 R x).2 (stepM16 R x).1 x.m.ch j := by
  unfold stepM16
  by_cases k2 : x.m.kd = 2
  · rw [if_pos k2]
    dsimp only
    split
    · exact ChGo.same h (ChSame.create _ _ _) _ _
    · exact ChGo.same h (ChSame.refl _) _ _
  rw [if_neg k2]
  by_cases k3 : x.m.kd = 3
  · rw [if_pos k3]
    exact ChGo.same h (ChSame.upd _ _ _ _) _ _
  rw [if_neg k3]
  by_cases k4 : x.m.kd = 4
  · rw [if_pos k4]
    exact ChGo.same h (ChSame.mis _ _ _ _ _) _ _
  rw [if_neg k4]
  by_cases k5 : x.m.kd = 5
  · rw [if_pos k5]
    unfold cnBeginP
    dsimp only
    split
    · exact ChGo.same h (ChSame.madeCn _ _) _ _
    · exact ChGo.same h (ChSame.refl _) _ _
  rw [if_neg k5]
  by_cases k6 : x.m.kd = 6
  · rw [if_pos k6]
    unfold cnTryP
    dsimp only
    split
    · exact ChGo.same h (ChSame.madeCn _ _) _ _
    · exact ChGo.same h (ChSame.refl _) _ _
  rw [if_neg k6]
  by_cases k7 : x.m.kd = 7
  · rw [if_pos k7]
    unfold cnAckP
    dsimp only
    split
    · exact ChGo.same h (ChSame.conn _ _ _) _ _
    · exact ChGo.same h (ChSame.refl _) _ _
  rw [if_neg k7]
  by_cases k8 : x.m.kd = 8
  · rw [if_pos k8]
    unfold cnConP
    dsimp only
    split
    · exact ChGo.same h (ChSame.conn _ _ _) _ _
    · exact ChGo.same h (ChSame.refl _) _ _
  rw [if_neg k8]
  by_cases k9 : x.m.kd = 9
  · rw [if_pos k9]
    unfold chBeginP beginR
    dsimp only
    split
    · next e => rw [e]; exact ChGo.made hr h hj _ _
    · exact ChGo.same h (ChSame.refl _) _ _
  rw [if_neg k9]
  by_cases k10 : x.m.kd = 10
  · rw [if_pos k10]
    unfold chTryP
    dsimp only
    split
    · next e => rw [e]; exact ChGo.made hr h hj _ _
    · exact ChGo.same h (ChSame.refl _) _ _
  rw [if_neg k10]
  by_cases k11 : x.m.kd = 11
  · rw [if_pos k11]
    unfold chAckP
    dsimp only
    split
    · next e =>
      rw [e]
      unfold chAckE at e
      split at e
      · next h0 =>
        split at e
        · next h2 =>
          obtain ⟨c, hc, hs, hv⟩ := inSt_some h0
          obtain ⟨_, _, g3⟩ := getCh_some hc
          have hsz := ident_size h2
          rw [hv]
          exact ChGo.turn hr h hc ⟨by show 3 < _; decide, g3.2.1, g3.2.2.1, g3.2.2.2.1, by show x.m.ce.size ≤ _; omega, g3.2.2.2.2.2⟩ rfl rfl rfl rfl rfl (.inl ⟨rfl, hs⟩)
        · cases e
      · exact absurd e (by assumption)
    · exact ChGo.same h (ChSame.refl _) _ _
  rw [if_neg k11]
  by_cases k12 : x.m.kd = 12
  · rw [if_pos k12]
    exact ChGo.fol hr h _ 2 3 _ _ _ (.inl ⟨rfl, rfl⟩)
  rw [if_neg k12]
  by_cases k13 : x.m.kd = 13
  · rw [if_pos k13]
    unfold chCloP
    dsimp only
    split
    · next e =>
      rw [e]
      unfold chCloE at e
      split at e
      · next h0 =>
        obtain ⟨c, hc, hs, hv⟩ := inSt_some h0
        obtain ⟨_, _, g3⟩ := getCh_some hc
        rw [hv]
        exact ChGo.turn hr h hc ⟨by show 4 < _; decide, g3.2.1, g3.2.2.1, g3.2.2.2.1, g3.2.2.2.2.1, g3.2.2.2.2.2⟩ rfl rfl rfl rfl rfl (.inr (.inr ⟨rfl, hs, rfl⟩))
      · exact absurd e (by assumption)
    · exact ChGo.same h (ChSame.refl _) _ _
  rw [if_neg k13]
  by_cases k14 : x.m.kd = 14
  · rw [if_pos k14]
    exact ChGo.fol hr h _ 3 4 _ _ _ (.inr ⟨rfl, rfl⟩)
  rw [if_neg k14]
  exact ChGo.same h (ChSame.refl _) _ _
theorem ChN.start {R : List Pr} (hr : Rise R) (h : R.filter (fun p => begB ibcP p.1) = []) : ChN R 0 := by
  have e : numN R sChan = 0 := by
    unfold numN
    rw [untouched hr h (ibc_num _)]
    rfl
  exact ⟨Nat.le_of_eq e, fun k _ _ => untouched hr h (ibc_chn _), fun a v hv => by rw [untouched hr h (ibc_chn _)] at hv; cases hv⟩
theorem madeCh_len (R : List Pr) (c : ChV) : (madeCh R c).length ≤ R.length + 5 := by
  unfold madeCh newR
  refine Nat.le_trans (setL_lenC _ _ _) ?_
  have h1 := setL_lenC (recvP ++ newID R sChan) (be 1 8) (setL (nextP ++ newID R sChan) (be 1 8) (setL (kChn (newID R sChan)) (chB c) (setL (kNum sChan) (be ((numN R sChan + 1) % 18446744073709551616) 8) R)))
  have h2 := setL_lenC (nextP ++ newID R sChan) (be 1 8) (setL (kChn (newID R sChan)) (chB c) (setL (kNum sChan) (be ((numN R sChan + 1) % 18446744073709551616) 8) R))
  have h3 := setL_lenC (kChn (newID R sChan)) (chB c) (setL (kNum sChan) (be ((numN R sChan + 1) % 18446744073709551616) 8) R)
  have h4 := setL_lenC (kNum sChan) (be ((numN R sChan + 1) % 18446744073709551616) 8) R
  omega
theorem step16_len (R : List Pr) (x : StepV) : (stepM16 R x).2.length ≤ R.length + 6 := by
  have h15 := step15_len R x
  unfold stepM15 at h15
  unfold stepM16
  by_cases k2 : x.m.kd = 2
  · rw [if_pos k2] at h15 ⊢
    exact Nat.le_trans h15 (by omega)
  rw [if_neg k2] at h15 ⊢
  by_cases k3 : x.m.kd = 3
  · rw [if_pos k3] at h15 ⊢
    exact Nat.le_trans h15 (by omega)
  rw [if_neg k3] at h15 ⊢
  by_cases k4 : x.m.kd = 4
  · rw [if_pos k4] at h15 ⊢
    exact Nat.le_trans h15 (by omega)
  rw [if_neg k4] at h15 ⊢
  by_cases k5 : x.m.kd = 5
  · rw [if_pos k5] at h15 ⊢
    exact Nat.le_trans h15 (by omega)
  rw [if_neg k5] at h15 ⊢
  by_cases k6 : x.m.kd = 6
  · rw [if_pos k6] at h15 ⊢
    exact Nat.le_trans h15 (by omega)
  rw [if_neg k6] at h15 ⊢
  by_cases k7 : x.m.kd = 7
  · rw [if_pos k7] at h15 ⊢
    exact Nat.le_trans h15 (by omega)
  rw [if_neg k7] at h15 ⊢
  by_cases k8 : x.m.kd = 8
  · rw [if_pos k8] at h15 ⊢
    exact Nat.le_trans h15 (by omega)
  rw [if_neg k8] at h15 ⊢
  clear h15
  by_cases k9 : x.m.kd = 9
  · rw [if_pos k9]
    unfold chBeginP beginR
    dsimp only
    split
    · exact Nat.le_trans (madeCh_len _ _) (by omega)
    · omega
  rw [if_neg k9]
  by_cases k10 : x.m.kd = 10
  · rw [if_pos k10]
    unfold chTryP
    dsimp only
    split
    · exact Nat.le_trans (madeCh_len _ _) (by omega)
    · omega
  rw [if_neg k10]
  by_cases k11 : x.m.kd = 11
  · rw [if_pos k11]
    unfold chAckP
    dsimp only
    split
    · exact Nat.le_trans (setL_lenC _ _ _) (by omega)
    · omega
  rw [if_neg k11]
  by_cases k12 : x.m.kd = 12
  · rw [if_pos k12]
    unfold chFolP
    dsimp only
    split
    · exact Nat.le_trans (setL_lenC _ _ _) (by omega)
    · omega
  rw [if_neg k12]
  by_cases k13 : x.m.kd = 13
  · rw [if_pos k13]
    unfold chCloP
    dsimp only
    split
    · exact Nat.le_trans (setL_lenC _ _ _) (by omega)
    · omega
  rw [if_neg k13]
  by_cases k14 : x.m.kd = 14
  · rw [if_pos k14]
    unfold chFolP
    dsimp only
    split
    · exact Nat.le_trans (setL_lenC _ _ _) (by omega)
    · omega
  rw [if_neg k14]
  dsimp only
  omega
theorem ch_row {R : List Pr} (hr : Rise R) {q : Nat} (hq : q < (R.filter (fun p => begB chanP p.1)).length) : ∃ id, (R.filter (fun p => begB chanP p.1))[q].1 = kChn id ∧ getL R (kChn id) = some (R.filter (fun p => begB chanP p.1))[q].2 := by
  have hm := List.getElem_mem hq
  obtain ⟨h1, h2⟩ := List.mem_filter.1 hm
  obtain ⟨id, he⟩ := beg_chan h2
  exact ⟨id, he, by rw [← he]; exact hr.get h1⟩
end Go.Proofs.YtmphegeiclgjbaaGreatDoor
namespace Go.Proofs.YtmphegeiclgjbaaGreatDoor
set_option maxRecDepth 100000
open Go Go.RowKit
set_option linter.unusedVariables false

set_option maxHeartbeats 8000000 in
theorem chmadeU_any {W w : World} {y : Lyr} {l : List Lyr} {R : List Pr} {k : Nat} (h : At W y l R k w) (hn : y.n + k + 5 ≤ maxLen) (hT : Pows w) (c : ChV) (h_st : c.st < 18446744073709551616) (h_po : c.po.size ≤ maxLen) (h_cp : c.cp.size ≤ maxLen) (h_cn : c.cn.size ≤ maxLen) (h_cc : c.cc.size ≤ maxLen) (h_ve : c.ve.size ≤ maxLen) :
    Calls Tryz.prog 125 #[.pointer (some ⟨y.b, 0, none⟩), c.val] w fun e w' => e = .returned (.string (newID R sChan)) ∧ At W y l (madeCh R c) (k + 5) w' ∧ Kept w w' := by
  have hbox := heap_alloc_new w (.cells #[.int .u64 (c.st : Int), .bool c.od, .string c.po, .string c.cp, .string c.cn, .string c.cc, .string c.ve] 85)
  have ha0 : Below w.heap.size w (w.alloc (.cells #[.int .u64 (c.st : Int), .bool c.od, .string c.po, .string c.cp, .string c.cn, .string c.cc, .string c.ve] 85)) := (Below.refl _ _).alloc (Nat.le_refl _) _
  have A0 := h.up ha0
  generalize hW0 : w.alloc (.cells #[.int .u64 (c.st : Int), .bool c.od, .string c.po, .string c.cp, .string c.cn, .string c.cc, .string c.ve] 85) = W0 at *
  have HN := Lib.hid (newidU_any A0 (by omega) sChan (by decide +kernel) (hT.kept (Kept.of_belowX ha0)))
  have zid := newID_len R sChan
  have z4 : sChan.size = 4 := rfl
  have hid : (newID R sChan).size ≤ 100 := by omega
  have HP : Hid (∀ Z, At W y l (newR R sChan) (k + 1) Z → Calls Tryz.prog 127 #[.pointer (some ⟨y.b, 0, none⟩), .string (newID R sChan), c.val] Z fun e w' => e = .returned (.tuple #[]) ∧ At W y l (setL (kChn (newID R sChan)) (chB c) (newR R sChan)) (k + 1 + 1) w' ∧ Kept Z w') :=
    Lib.hid fun Z hz => chput_any hz (by omega) _ (by omega) c h_st h_po h_cp h_cn h_cc h_ve
  have hmade : madeCh R c = oneR [nextP ++ newID R sChan, recvP ++ newID R sChan, ackedP ++ newID R sChan] (setL (kChn (newID R sChan)) (chB c) (newR R sChan)) := rfl
  rw [hmade]
  generalize setL (kChn (newID R sChan)) (chB c) (newR R sChan) = R2 at *
  generalize newR R sChan = R1 at *
  generalize newID R sChan = id at *
  have HK1 := Lib.hid (fun Z : World => chnext_any id Z (by omega))
  have HK2 := Lib.hid (fun Z : World => chrecv_any id Z (by omega))
  have HK3 := Lib.hid (fun Z : World => chacked_any id Z (by omega))
  have y1 : (nextP ++ id).size ≤ maxLen := by rw [ByteArray.size_append, show nextP.size = 9 from rfl]; unfold maxLen; omega
  have y2 : (recvP ++ id).size ≤ maxLen := by rw [ByteArray.size_append, show recvP.size = 9 from rfl]; unfold maxLen; omega
  have y3 : (ackedP ++ id).size ≤ maxLen := by rw [ByteArray.size_append, show ackedP.size = 10 from rfl]; unfold maxLen; omega
  generalize nextP ++ id = k1 at *
  generalize recvP ++ id = k2 at *
  generalize ackedP ++ id = k3 at *
  have HNW : Hid (∀ Z : World, Calls Tryz.prog 42 #[.slice none 0 0, .int .u64 1] Z fun e w' => ∃ v', e = .returned v' ∧ Own w' Z.heap.size v' (be 1 8) ∧ Below Z.heap.size Z w') := Lib.hid fun Z => by
    have := N_any (.slice none 0 0) [] 1 Z (Rd.nil _ _) (by decide) (by simp)
    rwa [List.nil_append] at this
  have HSZ := Lib.hid hn
  have HY := Lib.hid (And.intro y1 (And.intro y2 y3))
  have hkW : Kept w W0 := Kept.of_belowX ha0
  obtain ⟨st, od, po, cp, cn, cc, ve⟩ := c
  unfold ChV.val at *
  dsimp only at *
  have HBX := Lib.hid hbox
  clear hmade hid zid z4 hT h A0 hn y1 y2 y3 ha0 h_st h_po h_cp h_cn h_cc h_ve hbox
  unfold sChan at HN
  go_enter Tryz.func125, Tryz.ntmps125
  go_wp2_with fail
  try rw [hW0]
  clear hW0
  refine HN.out.mono ?_
  rintro e w1 ⟨rfl, A1, hk1⟩
  have HP1 := Lib.hid (HP.out _ A1)
  have b0 := hk1.cell (blk_cell HBX.out 0)
  have b1 := hk1.cell (blk_cell HBX.out 1)
  have b2 := hk1.cell (blk_cell HBX.out 2)
  have b3 := hk1.cell (blk_cell HBX.out 3)
  have b4 := hk1.cell (blk_cell HBX.out 4)
  have b5 := hk1.cell (blk_cell HBX.out 5)
  have b6 := hk1.cell (blk_cell HBX.out 6)
  have hkk := hkW.transX hk1
  clear HN HP A1 hkW hk1
  go_wp2_with fail
  refine HP1.out.mono ?_
  rintro e w2 ⟨rfl, A2, hk2⟩
  have hkk2 := hkk.transX hk2
  clear HP1 b0 b1 b2 b3 b4 b5 b6 hkk hk2 HBX
  go_wp2_with fail
  refine (HK1.out _).mono ?_
  rintro e w3 ⟨rfl, rfl⟩
  go_wp2_with fail
  refine (HK2.out _).mono ?_
  rintro e w3 ⟨rfl, rfl⟩
  go_wp2_with fail
  refine (HK3.out _).mono ?_
  rintro e w3 ⟨rfl, rfl⟩
  clear HK1 HK2 HK3
  have hrow := heap_alloc_new w2 (.cells #[.string k1, .string k2, .string k3] 9)
  have hb3 : Below w2.heap.size w2 (w2.alloc (.cells #[.string k1, .string k2, .string k3] 9)) := (Below.refl _ _).alloc (Nat.le_refl _) _
  have A3 := A2.up hb3
  have hkk3 := hkk2.transX (Kept.of_belowX hb3)
  clear A2 hkk2 hb3
  go_wp2_with fail
  generalize w2.alloc (.cells #[.string k1, .string k2, .string k3] 9) = w3 at *
  generalize w2.heap.size = gs at *
  have HR : Hid (∀ Z, Kept w3 Z → ∀ j (hj : j < 3), Z.cell? ⟨gs, j, none⟩ = some (.string ([k1, k2, k3][j])) ∧ ([k1, k2, k3][j]).size ≤ maxLen) := Lib.hid fun Z hz j hj => by
    obtain ⟨y1, y2, y3⟩ := HY.out
    match j, hj with
    | 0, _ => exact ⟨hz.cell (blk_cell hrow 0), y1⟩
    | 1, _ => exact ⟨hz.cell (blk_cell hrow 1), y2⟩
    | 2, _ => exact ⟨hz.cell (blk_cell hrow 2), y3⟩
  clear hrow HY
  have HA3 := Lib.hid (And.intro A3 hkk3)
  clear A3 hkk3
  go_loopw [7, 22] (fun _ i Z => ∃ j : Nat, j ≤ 3 ∧ i = .int .i64 (j : Int) ∧ Hid (At W y l (oneR ([k1, k2, k3].take j) R2) (k + 1 + 1 + j) Z ∧ Kept w3 Z))
    (fun _ i _ => 3 - (intOf i).toNat)
  case atStart => exact ⟨0, by omega, rfl, Lib.hid ⟨HA3.out.1, Kept.refl _⟩⟩
  case round =>
    obtain ⟨j, hj, rfl, HX⟩ := hrel
    by_cases hlt : j < 3
    · obtain ⟨c1, hsz⟩ := HR.out _ HX.out.2 j hlt
      have hst := oneR_next [k1, k2, k3] R2 j hlt
      have i1 : (0 : Int) ≤ (j : Int) := by omega
      have i2 : (j : Int) < 3 := by omega
      have HS := Lib.hid (fun (Z : World) (hz : Below wr.heap.size wr Z) (v : Value) (B : Nat) (ho : Own Z B v (be 1 8)) => (HX.out.1.up hz).set (by have := HSZ.out; omega) ([k1, k2, k3][j]) hsz v _ ho.rd)
      generalize [k1, k2, k3][j] = key at *
      have HST := Lib.hid hst
      clear hst hsz
      go_wp2_with fail
      refine (HNW.out _).mono ?_
      rintro e w4 ⟨v4, rfl, ho4, hb4⟩
      have HS4 : Hid (Calls Tryz.prog 93 #[.pointer (some ⟨y.b, 0, none⟩), .string key, v4] w4 fun e w' => (∃ c, e = .returned (.int .i64 c)) ∧ At W y l (setL key (be 1 8) (oneR ([k1, k2, k3].take j) R2)) (k + 1 + 1 + j + 1) w' ∧ Kept w4 w') :=
        Lib.hid ((HS.out _ hb4 v4 _ ho4).mono fun e w' ⟨h1, h2, h3⟩ => ⟨⟨_, h1⟩, h2, h3⟩)
      obtain ⟨A4, c4, rfl⟩ := ho4.form
      generalize (be 1 8).length = n4 at *
      clear HS ho4
      go_wp2_with fail
      refine HS4.out.mono ?_
      rintro e w5 ⟨⟨c5, rfl⟩, A5, hk5⟩
      have hkr := (HX.out.2.transX (Kept.of_belowX hb4)).transX hk5
      go_wp2_with fail
      refine ⟨⟨j + 1, by omega, ?_, Lib.hid ⟨?_, hkr⟩⟩, ?_⟩
      · simp
      · rw [HST.out]; exact A5
      · simp [intOf]; omega
    · have i2 : ¬ (j : Int) < 3 := by omega
      obtain rfl : j = 3 := by omega
      have hk5 := HX.out.2
      have A5 : At W y l (oneR [k1, k2, k3] R2) (k + 5) wr := HX.out.1
      have hkf := HA3.out.2.transX hk5
      clear HX HR HNW
      go_wp2_with fail
      go_ret
      exact ⟨rfl, A5, hkf⟩
set_option maxHeartbeats 4000000 in
theorem chbeginU_any {W w : World} {y : Lyr} {l : List Lyr} {R : List Pr} {k : Nat} (h : At W y l R k w) (hn : y.n + k + 5 ≤ maxLen) (hT : Pows w) (via po cp : ByteArray) (od : Bool) (ve : ByteArray) (h_via : via.size ≤ 100000000) (h_po : po.size ≤ 100000000) (h_cp : cp.size ≤ 100000000) (h_ve : ve.size ≤ 100000000) :
    Calls Tryz.prog 84 #[.pointer (some ⟨y.b, 0, none⟩), .string via, .string po, .string cp, .bool od, .string ve] w fun e w' => e = .returned (.tuple #[.string (beginI R via po cp od ve), .int .i64 (beginE R via po cp od ve)]) ∧ At W y l (beginR R via po cp od ve) (k + 5) w' ∧ Kept w w' := by
  have HO := Lib.hid (chopen_any h via h_via)
  have HF := Lib.hid (fun Z : World => form_any po cp od ve Z h_ve)
  have HM : Hid (∀ Z, Below w.heap.size w Z → Calls Tryz.prog 125 #[.pointer (some ⟨y.b, 0, none⟩), .agg #[.int .u64 1, .bool od, .string po, .string cp, .string via, .string ⟨#[]⟩, .string ve]] Z fun e w' => e = .returned (.string (newID R sChan)) ∧ At W y l (madeCh R ⟨1, od, po, cp, via, ⟨#[]⟩, ve⟩) (k + 5) w' ∧ Kept Z w') :=
    Lib.hid fun Z hz => chmadeU_any (h.up hz) hn (hT.kept (Kept.of_belowX hz)) ⟨1, od, po, cp, via, ⟨#[]⟩, ve⟩ (by show 1 < _; decide) (by show po.size ≤ _; unfold maxLen; omega) (by show cp.size ≤ _; unfold maxLen; omega) (by show via.size ≤ _; unfold maxLen; omega) (by show 0 ≤ _; omega) (by show ve.size ≤ _; unfold maxLen; omega)
  have HA := Lib.hid (fun (Z : World) (hz : Below w.heap.size w Z) => (h.up hz).more (show k ≤ k + 5 by omega))
  unfold beginI beginR beginE
  generalize madeCh R ⟨1, od, po, cp, via, ⟨#[]⟩, ve⟩ = R2 at *
  generalize newID R sChan = id at *
  generalize formM po cp od ve = F at *
  generalize openV R via = V at *
  generalize openE R via = E at *
  obtain ⟨st, cl, cc, ct⟩ := V
  unfold CnV.val at HO
  dsimp only at HO
  clear h hn hT h_via h_po h_cp h_ve
  have he0 : ∀ E : Int, E ≠ 0 → (E != 0) = true := fun E h => by simpa using h
  by_cases hE : E = 0
  · subst hE
    by_cases hF : F = 0
    · subst hF
      rw [if_pos rfl, if_pos rfl]
      simp only [if_true]
      clear he0
      go_enter Tryz.func84, Tryz.ntmps84
      go_wp2_with fail
      refine HO.out.mono ?_
      rintro e w1 ⟨rfl, hb1⟩
      have hb2 := hb1.alloc hb1.size (.cells #[.int .u64 (st : Int), .string cl, .string cc, .string ct] 78)
      clear hb1 HO
      go_wp2_with fail
      generalize w1.alloc (.cells #[.int .u64 (st : Int), .string cl, .string cc, .string ct] 78) = w2 at *
      refine (HF.out _).mono ?_
      rintro e w3 ⟨rfl, rfl⟩
      have HM2 := Lib.hid (HM.out _ hb2)
      have hk2 := Kept.of_belowX hb2
      clear HF HA HM hb2
      go_wp2_with fail
      refine HM2.out.mono ?_
      rintro e w4 ⟨rfl, A4, hk4⟩
      have hkf := hk2.transX hk4
      go_wp2_with fail
      go_ret2
      exact ⟨rfl, A4, hkf⟩
    · have he := he0 F hF
      simp only [if_true, if_neg hF]
      clear he0 hF
      go_enter Tryz.func84, Tryz.ntmps84
      go_wp2_with fail
      refine HO.out.mono ?_
      rintro e w1 ⟨rfl, hb1⟩
      have hb2 := hb1.alloc hb1.size (.cells #[.int .u64 (st : Int), .string cl, .string cc, .string ct] 78)
      clear hb1 HO
      go_wp2_with fail
      generalize w1.alloc (.cells #[.int .u64 (st : Int), .string cl, .string cc, .string ct] 78) = w2 at *
      refine (HF.out _).mono ?_
      rintro e w3 ⟨rfl, rfl⟩
      have A2 := HA.out _ hb2
      have hk2 := Kept.of_belowX hb2
      clear HF HA HM hb2
      go_wp2_with fail
      go_ret2
      exact ⟨rfl, A2, hk2⟩
  · have he := he0 E hE
    simp only [if_neg hE]
    clear he0 hE
    go_enter Tryz.func84, Tryz.ntmps84
    go_wp2_with fail
    refine HO.out.mono ?_
    rintro e w1 ⟨rfl, hb1⟩
    have hb2 := hb1.alloc hb1.size (.cells #[.int .u64 (st : Int), .string cl, .string cc, .string ct] 78)
    clear hb1 HO
    have A2 := HA.out _ hb2
    have hk2 := Kept.of_belowX hb2
    clear HF HA HM hb2
    go_wp2_with fail
    go_ret2
    exact ⟨rfl, A2, hk2⟩
set_option maxHeartbeats 16000000 in
theorem chshown_any {W w : World} {y : Lyr} {l : List Lyr} {R : List Pr} {k : Nat} (h : At W y l R k w) (id : ByteArray) (hid : id.size ≤ 1048576) (st sn : Nat) (od : Bool) (po cp cn cc ve : ByteArray) (h_sn : sn < 18446744073709551616) (h_po : po.size ≤ 1048576) (h_cp : cp.size ≤ 1048576) (h_cn : cn.size ≤ 1048576) (h_cc : cc.size ≤ 1048576) (h_ve : ve.size ≤ 1048576) (ht now : Nat) (h_ht : ht < 18446744073709551616) (h_now : now < 18446744073709551616)
    (n : Int) (A : Option Addr) (m c : Nat) (p : Pf) (hp : ∀ Z, Below w.heap.size w Z → ProofV Z Z.heap.size (.agg #[.int .i64 n, .slice A m c]) p)
    (fr : TypeId × Nat × Nat) (hk : w.heap[0]? = some (.cells kVals fr.1 fr.2)) :
    Calls Tryz.prog 128 #[.pointer (some ⟨y.b, 0, none⟩), .string id, .agg #[.int .u64 (st : Int), .bool od, .string po, .string cp, .string cn, .string cc, .string ve], .int .u64 (sn : Int), .int .u64 (ht : Int), .agg #[.int .i64 n, .slice A m c], .int .u64 (now : Int)] w fun e w' => e = .returned (.int .i64 (chShowE R id ⟨st, od, po, cp, cn, cc, ve⟩ sn ht now p)) ∧ Below w.heap.size w w' := by
  have hb1 : Below w.heap.size w (w.alloc (.cells #[.int .u64 (st : Int), .bool od, .string po, .string cp, .string cn, .string cc, .string ve] 85)) := (Below.refl _ _).alloc (Nat.le_refl _) _
  have ha0 := hb1.alloc hb1.size (.cells #[.int .i64 n, .slice A m c] 41)
  have q1 := heap_alloc_new w (.cells #[.int .u64 (st : Int), .bool od, .string po, .string cp, .string cn, .string cc, .string ve] 85)
  have q2 := heap_alloc_new (w.alloc (.cells #[.int .u64 (st : Int), .bool od, .string po, .string cp, .string cn, .string cc, .string ve] 85)) (.cells #[.int .i64 n, .slice A m c] 41)
  replace q1 := (Below.heap_alloc (w.alloc (.cells #[.int .u64 (st : Int), .bool od, .string po, .string cp, .string cn, .string cc, .string ve] 85)) (.cells #[.int .i64 n, .slice A m c] 41) _ (blk_lt q1)).trans q1
  rw [show (w.alloc (.cells #[.int .u64 (st : Int), .bool od, .string po, .string cp, .string cn, .string cc, .string ve] 85)).heap.size = w.heap.size + 1 by simp] at q2
  clear hb1
  have hok : (openV R cn).ok := openV_ok
  have hO := chopen_any (h.up ha0) cn (by omega)
  obtain ⟨V, hV⟩ : ∃ v, v = openV R cn := ⟨_, rfl⟩
  obtain ⟨O, hOE⟩ : ∃ e, e = openE R cn := ⟨_, rfl⟩
  rw [← hV, ← hOE] at hO
  rw [← hV] at hok
  unfold chShowE
  dsimp only
  rw [← hV, ← hOE]
  obtain ⟨vst, vcl, vcc, vct⟩ := V
  obtain ⟨o1, o2, o3, o4⟩ := hok
  unfold CnV.val at hO
  dsimp only at hO o1 o2 o3 o4 ⊢
  have HO := Lib.hid hO
  obtain ⟨E, hE⟩ : ∃ e, e = verifyE R vcl ht now (kChn cc) (chB ⟨sn, od, cp, po, vct, id, ve⟩) p := ⟨_, rfl⟩
  rw [← hE]
  have HKY : Hid (∀ Z : World, Calls Tryz.prog 90 #[.string cc] Z fun e w' => e = .returned (.string (kChn cc)) ∧ Z = w') := Lib.hid fun Z => chkey_any _ Z (by omega)
  have HBY : Hid (∀ Z : World, Calls Tryz.prog 141 #[.agg #[.int .u64 (sn : Int), .bool od, .string cp, .string po, .string vct, .string id, .string ve]] Z fun e w' => ∃ v', e = .returned v' ∧ Own w' Z.heap.size v' (chB ⟨sn, od, cp, po, vct, id, ve⟩) ∧ Below Z.heap.size Z w') := Lib.hid fun Z => chbytes_any ⟨sn, od, cp, po, vct, id, ve⟩ Z (by show sn < _; exact h_sn) (by show ByteArray.size cp ≤ _; unfold maxLen; omega) (by show ByteArray.size po ≤ _; unfold maxLen; omega) (by show ByteArray.size vct ≤ _; unfold maxLen; omega) (by show ByteArray.size id ≤ _; unfold maxLen; omega) (by show ByteArray.size ve ≤ _; unfold maxLen; omega)
  have HVE : Hid (∀ (Z : World) (hz : Below w.heap.size w Z) (v : Value) (B : Nat) (ho : Own Z B v (chB ⟨sn, od, cp, po, vct, id, ve⟩)), Calls Tryz.prog 15 #[.pointer (some ⟨y.b, 0, none⟩), .string vcl, .int .u64 (ht : Int), .string (kChn cc), v, .agg #[.int .i64 n, .slice A m c], .int .u64 (now : Int)] Z fun e w' => e = .returned (.int .i64 E) ∧ Below Z.heap.size Z w') :=
    Lib.hid fun Z hz v B ho => by
      have := clverify_any (h.up hz) vcl ht now (by omega) h_ht h_now (kChn cc) v (chB ⟨sn, od, cp, po, vct, id, ve⟩) n A m c p (fun Z2 hz2 => hp Z2 (below_chain hz hz.size hz2)) ho.rd fr ((hz.block _ (blk_lt hk)).trans hk)
      rw [← hE] at this
      exact this
  generalize chB ⟨sn, od, cp, po, vct, id, ve⟩ = L1 at *
  generalize kChn cc = key at *
  generalize hW0 : (w.alloc (.cells #[.int .u64 (st : Int), .bool od, .string po, .string cp, .string cn, .string cc, .string ve] 85)).alloc (.cells #[.int .i64 n, .slice A m c] 41) = W0 at *
  have HW : Hid (∀ Z, Below W0.heap.size W0 Z → Below w.heap.size w Z) := Lib.hid fun Z hz => below_chain ha0 ha0.size hz
  generalize hgg : w.heap.size = g0 at *
  have HC0 : Hid (∀ Z, Below W0.heap.size W0 Z → Z.heap[g0]? = some (.cells #[.int .u64 (st : Int), .bool od, .string po, .string cp, .string cn, .string cc, .string ve] 85 (0, 0))) := Lib.hid fun Z hz => (hz.block _ (blk_lt q1)).trans q1
  have HP0 : Hid (∀ Z, Below W0.heap.size W0 Z → Z.heap[g0 + 1]? = some (.cells #[.int .i64 n, .slice A m c] 41 (0, 0))) := Lib.hid fun Z hz => (hz.block _ (blk_lt q2)).trans q2
  have HKP : Hid (∀ Z, Below g0 w Z → Kept w Z) := Lib.hid fun Z hz => Kept.of_belowX (by rw [hgg]; exact hz)
  have HG0 : Hid (g0 ≤ W0.heap.size) := Lib.hid (by rw [← hgg]; exact ha0.size)
  clear h hid h_sn h_po h_cp h_cn h_cc h_ve hp hk hE hV hOE q1 q2 ha0 h_ht h_now o1 o2 o3 o4
  by_cases hz : O = 0
  rotate_left
  · rw [if_neg hz]
    have hneB : (O != 0) = true := by simpa using hz
    have m0 := HC0.out _ (Below.refl _ _)
    have c4 := blk_cell m0 4
    go_enter Tryz.func128, Tryz.ntmps128
    go_wp2_with fail
    try rw [hW0]
    clear hW0
    try rw [hgg]
    refine HO.out.mono ?_
    rintro e w1 ⟨rfl, hb1⟩
    have b2 := hb1.alloc hb1.size (.cells #[.int .u64 (vst : Int), .string vcl, .string vcc, .string vct] 78)
    have mN := heap_alloc_new w1 (.cells #[.int .u64 (vst : Int), .string vcl, .string vcc, .string vct] 78)
    have hfin := HW.out _ b2
    clear mN m0 HBY HKY HVE HC0 HP0 HW HKP HO hb1
    go_wp2_with fail
    go_ret
    exact ⟨rfl, by first | exact hfin | (rw [hgg]; exact hfin)⟩
  subst hz
  rw [if_pos rfl]
  have m0 := HC0.out _ (Below.refl _ _)
  have c4 := blk_cell m0 4
  go_enter Tryz.func128, Tryz.ntmps128
  go_wp2_with fail
  try rw [hW0]
  clear hW0
  try rw [hgg]
  refine HO.out.mono ?_
  rintro e w1 ⟨rfl, hb1⟩
  have b2 := hb1.alloc hb1.size (.cells #[.int .u64 (vst : Int), .string vcl, .string vcc, .string vct] 78)
  have mN := heap_alloc_new w1 (.cells #[.int .u64 (vst : Int), .string vcl, .string vcc, .string vct] 78)
  clear c4 m0 HO hb1
  have m2 := HC0.out _ b2
  have c1 := blk_cell m2 1
  have c2 := blk_cell m2 2
  have c3 := blk_cell m2 3
  have c4 := blk_cell m2 4
  have c5 := blk_cell m2 5
  have c6 := blk_cell m2 6
  have v3 := blk_cell mN 3
  have HMN : Hid (∀ Z, Below (w1.alloc (.cells #[.int .u64 (vst : Int), .string vcl, .string vcc, .string vct] 78)).heap.size (w1.alloc (.cells #[.int .u64 (vst : Int), .string vcl, .string vcc, .string vct] 78)) Z → Z.heap[w1.heap.size]? = some (.cells #[.int .u64 (vst : Int), .string vcl, .string vcc, .string vct] 78 (0, 0))) := Lib.hid fun Z hz => (hz.block _ (blk_lt mN)).trans mN
  have hs2 : (w1.alloc (.cells #[.int .u64 (vst : Int), .string vcl, .string vcc, .string vct] 78)).heap.size = w1.heap.size + 1 := by simp
  have HS2 := Lib.hid hs2
  clear mN m2 hs2
  go_wp2_with fail
  clear c1 c2 c3 c4 c5 c6 v3
  generalize w1.alloc (.cells #[.int .u64 (vst : Int), .string vcl, .string vcc, .string vct] 78) = w2 at *
  generalize w1.heap.size = gN at *
  have b3 := b2.alloc b2.size (.cells #[.int .u64 (sn : Int), .bool od, .string cp, .string po, .string vct, .string id, .string ve] 85)
  have mO := heap_alloc_new w2 (.cells #[.int .u64 (sn : Int), .bool od, .string cp, .string po, .string vct, .string id, .string ve] 85)
  have hb23 : Below w2.heap.size w2 (w2.alloc (.cells #[.int .u64 (sn : Int), .bool od, .string cp, .string po, .string vct, .string id, .string ve] 85)) := (Below.refl _ _).alloc (Nat.le_refl _) _
  rw [HS2.out] at mO
  generalize w2.alloc (.cells #[.int .u64 (sn : Int), .bool od, .string cp, .string po, .string vct, .string id, .string ve] 85) = w3 at *
  have HC : Hid (∀ Z, Below w3.heap.size w3 Z → Z.cell? ⟨g0, 5, none⟩ = some (.string cc) ∧ Z.cell? ⟨g0 + 1, 0, none⟩ = some (.int .i64 n) ∧ Z.cell? ⟨g0 + 1, 1, none⟩ = some (.slice A m c) ∧ Z.cell? ⟨gN, 1, none⟩ = some (.string vcl) ∧ Z.cell? ⟨gN + 1, 0, none⟩ = some (.int .u64 (sn : Int)) ∧ Z.cell? ⟨gN + 1, 1, none⟩ = some (.bool od) ∧ Z.cell? ⟨gN + 1, 2, none⟩ = some (.string cp) ∧ Z.cell? ⟨gN + 1, 3, none⟩ = some (.string po) ∧ Z.cell? ⟨gN + 1, 4, none⟩ = some (.string vct) ∧ Z.cell? ⟨gN + 1, 5, none⟩ = some (.string id) ∧ Z.cell? ⟨gN + 1, 6, none⟩ = some (.string ve)) := Lib.hid fun Z hz => by
    have e1 := HC0.out Z (b3.trans (hz.mono b3.size))
    have e2 := HP0.out Z (b3.trans (hz.mono b3.size))
    have e3 := HMN.out Z (hb23.trans (hz.mono hb23.size))
    have e4 := (hz.block _ (blk_lt mO)).trans mO
    exact ⟨blk_cell e1 5, blk_cell e2 0, blk_cell e2 1, blk_cell e3 1, blk_cell e4 0, blk_cell e4 1, blk_cell e4 2, blk_cell e4 3, blk_cell e4 4, blk_cell e4 5, blk_cell e4 6⟩
  have hkD : Below w3.heap.size w3 w3.drew := Below.drew (Below.refl _ _)
  have HVE2 := Lib.hid (fun (Z : World) (hz : Below w3.heap.size w3 Z) (v : Value) (B : Nat) (ho : Own Z B v L1) => HVE.out Z (HW.out _ (b3.trans (hz.mono b3.size))) v B ho)
  have B3 := Lib.hid b3
  clear mO b3 b2 hb23 HMN HC0 HP0 HVE HS2
  go_region_held_law (fun Z => Z.cell? ⟨g0, 5, none⟩ = some (.string cc) ∧ Z.cell? ⟨g0 + 1, 0, none⟩ = some (.int .i64 n) ∧ Z.cell? ⟨g0 + 1, 1, none⟩ = some (.slice A m c) ∧ Z.cell? ⟨gN, 1, none⟩ = some (.string vcl) ∧ Z.cell? ⟨gN + 1, 0, none⟩ = some (.int .u64 (sn : Int)) ∧ Z.cell? ⟨gN + 1, 1, none⟩ = some (.bool od) ∧ Z.cell? ⟨gN + 1, 2, none⟩ = some (.string cp) ∧ Z.cell? ⟨gN + 1, 3, none⟩ = some (.string po) ∧ Z.cell? ⟨gN + 1, 4, none⟩ = some (.string vct) ∧ Z.cell? ⟨gN + 1, 5, none⟩ = some (.string id) ∧ Z.cell? ⟨gN + 1, 6, none⟩ = some (.string ve))
    (with_reducible first | exact HC.out _ hk2 | exact HC.out _ hk1 | exact HC.out _ hkD)
    ((first
      | (go_at_call 90; refine (HKY.out _).mono ?_; rintro e w9 ⟨rfl, rfl⟩)
      | (go_at_call 141; refine (HBY.out _).mono ?_; rintro e w4 ⟨v4, rfl, ho4, hb4⟩; have hk1 := below_chain hkD hkD.size hb4)
      | (go_at_call 15; refine (HVE2.out _ hk1 _ _ ho4).mono ?_; rintro e w5 ⟨rfl, hb5⟩; have hk2 := below_chain hk1 hk1.size hb5)))
  all_goals
    have hfin := HW.out _ (B3.out.trans (hk2.mono B3.out.size))
    go_wp2_with fail
    go_ret
    exact ⟨rfl, by first | exact hfin | (rw [hgg]; exact hfin)⟩
end Go.Proofs.YtmphegeiclgjbaaGreatDoor
