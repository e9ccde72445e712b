
/- The walk of the document's Crash. -/
import Derived.Test.YtbbpkenbeenocaaRDiskC
import Derived.Test.YtbbpkenbeenocaaDiskF
namespace Go.Proofs.Ytbbpkenbeenocaa
open Go Go.RowKit
set_option linter.unusedVariables false

/-- bytes kept and lost, one by one; what nothing is said of is lost -/
def remP (data : List UInt8) (safe : Nat) (K : List Bool) : Nat → List UInt8 × Nat
  | 0 => (data.take safe, 0)
  | j + 1 => remStep (remP data safe K j) (data.getD (safe + j) 0, K.getD j false)
theorem remP_len (data : List UInt8) (safe : Nat) (K : List Bool) (hs : safe ≤ data.length) (j : Nat) : (remP data safe K j).1.length + (remP data safe K j).2 = safe + j := by
  induction j with
  | zero => simp [remP]; omega
  | succ j ih => rw [remP, remStep_len]; omega
theorem remP_eq (data : List UInt8) (safe : Nat) (K : List Bool) : ∀ j, j ≤ K.length → safe + j ≤ data.length → remP data safe K j = remK data safe K j := by
  intro j
  induction j with
  | zero => intro _ _; rw [remK_zero]; rfl
  | succ j ih =>
    intro h1 h2
    rw [remP, ih (by omega) (by omega), remK_succ data safe K j (by omega) (by omega)]
    congr 2
    · simp [List.getD, List.getElem?_eq_getElem (show safe + j < data.length by omega)]
    · simp [List.getD, List.getElem?_eq_getElem (show j < K.length by omega)]
theorem remP_past (data : List UInt8) (safe : Nat) (K : List Bool) : ∀ j, (remP data safe K (K.length + j)).1 = (remP data safe K K.length).1 := by
  intro j
  induction j with
  | zero => rfl
  | succ j ih =>
    rw [← Nat.add_assoc, remP]
    have : K.getD (K.length + j) false = false := by simp [List.getD]
    rw [this]
    simp [remStep, ih]
theorem remP_all (f : FM) (K : List Bool) (hs : f.safe ≤ f.data.length) : (remP f.data f.safe K (f.data.length - f.safe)).1 = remM f K := by
  by_cases h : f.data.length - f.safe ≤ K.length
  · rw [remP_eq f.data f.safe K _ h (by omega), ← remM_cut f K (f.data.length - f.safe) (Nat.le_refl _)]
    rfl
  · have e : f.data.length - f.safe = K.length + (f.data.length - f.safe - K.length) := by omega
    rw [e, remP_past, remP_eq f.data f.safe K _ (Nat.le_refl _) (by omega)]
    exact remK_all f K

theorem Own.take {w : World} {B : Nat} {A : Option Addr} {n c k : Nat} {l : List UInt8} (h : Own w B (.slice A n c) l) (hk : k ≤ l.length) : Own w B (.slice A k c) (l.take k) := by
  have hl : (l.take k).length = k := by simp; omega
  refine ⟨by rw [bcells_length]; omega, ?_⟩
  rcases h.2 with ⟨e, h0⟩ | ⟨g, cap, cur, e, hb, hg, hn, hm, hs, ht⟩
  · injection e with e1 e2 e3
    refine .inl ⟨?_, by rw [hl]; omega⟩
    rw [e1, e3]
    congr 1
    omega
  · injection e with e1 e2 e3
    subst e1; subst e3
    refine .inr ⟨g, c, cur, by rw [hl], hb, hg, by rw [hl]; omega, hm, hs, ?_⟩
    rw [hl, Nat.mul_one]
    have h1 : cur.toList.take k = (cur.toList.take (l.length * 1)).take k := by rw [List.take_take, Nat.mul_one, Nat.min_eq_left hk]
    rw [h1, ht]
    simp [bcells]

variable {w : World} {F : Nat → Prop} {d : Nat} {m : DM}

set_option maxRecDepth 100000 in
set_option maxHeartbeats 4000000 in
theorem rcrash_any (h : RefAt w F d m) (kv : Value) (keep : List Bool) (hk : RdL w w.heap.size kv keep) (hlen : totM m.files ≤ 1000000000) (hkl : keep.length ≤ 1000000000) (hml : m.files.length ≤ 1000) :
    Calls Try.prog 21 #[.pointer (some ⟨d, 0, none⟩), kv] w fun e w' => ∃ v, e = .returned v ∧ OutAt w' w.heap.size v (crashM m.files keep) ∧ Below w.heap.size w w' := by
  obtain ⟨i0, hi, hz, hsz, hby⟩ := info_parts Try.infoOut
  obtain ⟨ib, hib, hibz, hibs, hibb⟩ := info_parts Try.infoByte
  obtain ⟨fv, u, hd, hF, hf, hlt, hl⟩ := h
  have c0 : w.cell? ⟨d, 0, none⟩ = some fv := blk_cell hd 0
  obtain ⟨A, c, rfl, hc, hcm⟩ := hf.form
  unfold maxLen at hcm
  obtain ⟨n, hn⟩ : ∃ n, n = m.files.length := ⟨_, rfl⟩
  have HN := Lib.hid hn
  rw [← hn] at hc c0
  have HFF := Lib.hid hf
  have HLEN := Lib.hid hlen
  obtain ⟨AK, ck, rfl, hkc, hkm, hkp⟩ := hk
  unfold maxLen at hkm
  obtain ⟨nk, hnk⟩ : ∃ nk, nk = keep.length := ⟨_, rfl⟩
  rw [← hnk] at hkc hkl ⊢
  have HNK := Lib.hid hnk
  have HKP := Lib.hid hkp
  obtain ⟨B, hB⟩ : ∃ B, B = w.heap.size := ⟨_, rfl⟩
  rw [← hB] at HKP ⊢
  have HB := Lib.hid hB
  clear hn hd hf hlen hnk hkp hl
  go_enter Try.func21, Try.ntmps21
  go_wp2
  go_loopw [5, 6, 17] (fun lv kk i wr => ∃ k : Nat, k ≤ n ∧ i = .int .i64 (k : Int) ∧ kk = .int .i64 ((waitM (m.files.take k) : Nat) : Int) ∧ OutAt wr B lv ((crashM m.files keep).take k) ∧ Below B w wr ∧ B ≤ wr.heap.size)
    (fun _ _ i _ => n - (intOf i).toNat)
  case atStart => exact ⟨0, Nat.zero_le _, rfl, rfl, OutAt.nil _ _, Below.refl _ _, by omega⟩
  case round =>
    rename_i u5 _ _
    obtain ⟨k, hk', rfl, rfl, hlv, hb, hsr⟩ := hrel
    by_cases hlt' : k < n
    · have hkl' : k < m.files.length := by have := HN.out; omega
      obtain ⟨g, o, dv, rfl, hFg, hgl, _, k0, k1, k2, _, hdat, hsafe, _⟩ := (HFF.out).at_ (by decide) k hkl'
      obtain ⟨A, cc, rfl⟩ := hdat.form
      have hgB : g < B := by have := HB.out; omega
      have c0' := (hb.cell (p := ⟨g, o + k * 3, none⟩) hgB).trans k0
      have c1' := (hb.cell (p := ⟨g, o + k * 3 + 1, none⟩) hgB).trans k1
      have c2' := (hb.cell (p := ⟨g, o + k * 3 + 2, none⟩) hgB).trans k2
      have hdl : m.files[k].data.length ≤ 1000000000 := Nat.le_trans (totM_mem (List.getElem_mem hkl')) HLEN.out
      have hwl : waitM (m.files.take k) ≤ 1000000000 := Nat.le_trans (Nat.le_trans (waitM_le _) (totM_take _ _)) HLEN.out
      have hct := crashM_take m.files keep k hkl'
      have hws := waitM_take_succ m.files k hkl'
      have hdat' : Dat wr (.slice A m.files[k].data.length cc) m.files[k].data := by
        have := hdat.keep (w' := wr) fun j hj => hb.block j (by have := hdat.lt j hj; have := HB.out; omega)
        exact this
      have i1 : (0 : Int) ≤ (k : Int) := by omega
      have i2 : (k : Int) < (n : Int) := by omega
      generalize hfe : m.files[k] = f at *
      have hKd : keepAt m.files keep k = keep.drop (waitM (m.files.take k)) := rfl
      obtain ⟨off, hoff⟩ : ∃ off, off = waitM (m.files.take k) := ⟨_, rfl⟩
      obtain ⟨K, hK⟩ : ∃ K, K = keepAt m.files keep k := ⟨_, rfl⟩
      rw [← hK] at hct
      rw [← hoff] at hws hwl ⊢
      rw [← hK, ← hoff] at hKd
      obtain ⟨L, hL⟩ : ∃ L, L = f.data.length := ⟨_, rfl⟩
      rw [← hL] at hdl hsafe c1' hdat'
      have HCT := Lib.hid hct
      have HWS := Lib.hid hws
      have HL := Lib.hid hL
      have HKD := Lib.hid hKd
      obtain ⟨bx, hbx⟩ : ∃ bx, bx = wr.heap.size := ⟨_, rfl⟩
      have hba : Below B w (wr.alloc (.cells #[.string f.name, .slice A L cc, .int .i64 (f.safe : Int)] 76)) := hb.alloc hsr _
      have HBOX : Hid (∀ W : World, Below (bx + 1) (wr.alloc (.cells #[.string f.name, .slice A L cc, .int .i64 (f.safe : Int)] 76)) W → W.cell? ⟨bx, 0, none⟩ = some (.string f.name) ∧ W.cell? ⟨bx, 1, none⟩ = some (.slice A L cc) ∧ W.cell? ⟨bx, 2, none⟩ = some (.int .i64 (f.safe : Int)) ∧ Dat W (.slice A L cc) f.data) := Lib.hid fun W hW => by
        have hb2 := heap_alloc_new wr (.cells #[.string f.name, .slice A L cc, .int .i64 (f.safe : Int)] 76)
        rw [← hbx] at hb2
        refine ⟨(hW.cell (p := ⟨bx, 0, none⟩) (by show bx < bx + 1; omega)).trans (blk_cell hb2 0), (hW.cell (p := ⟨bx, 1, none⟩) (by show bx < bx + 1; omega)).trans (blk_cell hb2 1), (hW.cell (p := ⟨bx, 2, none⟩) (by show bx < bx + 1; omega)).trans (blk_cell hb2 2), ?_⟩
        have h1 := hdat'.below ((Below.refl _ _).alloc (Nat.le_refl _) (.cells #[.string f.name, .slice A L cc, .int .i64 (f.safe : Int)] 76))
        exact h1.keep fun j hj => hW.block j (by have := hdat'.lt j hj; omega)
      have hcc : L ≤ cc := by
        rcases hdat' with ⟨e, h0⟩ | ⟨g, cap, cur, e, _, hn, _⟩
        · injection e with _ e2 e3; omega
        · injection e with _ e2 e3; have := HL.out; omega
      have hccm : cc ≤ 9223372036854775807 := by
        rcases hdat' with ⟨e, h0⟩ | ⟨g, cap, cur, e, _, _, hn, _⟩
        · injection e with _ _ e; omega
        · unfold maxLen at hn; injection e with _ _ e; omega
      have hsl : ∀ W : World, (Instr.slice 40 (.slice A L cc) none (some (.int .i64 (f.safe : Int))) none).run Try.prog W = .ok (.slice A f.safe cc) W := run_slice_to _ _ ib Try.underlying40 hib A L cc f.safe (by omega)
      have HBX := Lib.hid hbx
      clear k0 k1 k2 hdat hct hws hKd hL hoff hK hbx hfe hdat'
      have hzB : (wr.alloc (.cells #[.string f.name, .slice A L cc, .int .i64 (f.safe : Int)] 76)).heap.size = bx + 1 := by rw [HBX.out]; simp
      have hdB := HBOX.out (wr.alloc (.cells #[.string f.name, .slice A L cc, .int .i64 (f.safe : Int)] 76)) (Below.refl _ _)
      have hcut0 := hdB.2.2.2.take (n := f.safe) (c' := cc) (by have := HL.out; omega) (.inl rfl)
      have HCUT : Hid (Rd ((wr.alloc (.cells #[.string f.name, .slice A L cc, .int .i64 (f.safe : Int)] 76)).alloc (.cells #[] 5)) (wr.alloc (.cells #[.string f.name, .slice A L cc, .int .i64 (f.safe : Int)] 76)).heap.size (.slice A f.safe cc) (f.data.take f.safe)) := Lib.hid (hcut0.rd.below ((Below.refl _ _).alloc (Nat.le_refl _) _))
      have HTL : Hid ((f.data.take f.safe).length = f.safe) := Lib.hid (by simp; have := HL.out; omega)
      have HB2 : Hid (∀ W : World, Below (wr.alloc (.cells #[.string f.name, .slice A L cc, .int .i64 (f.safe : Int)] 76)).heap.size (wr.alloc (.cells #[.string f.name, .slice A L cc, .int .i64 (f.safe : Int)] 76)) W → W.cell? ⟨wr.heap.size, 2, none⟩ = some (.int .i64 (f.safe : Int))) := Lib.hid fun W hW => by rw [hzB] at hW; rw [← HBX.out]; exact (HBOX.out W hW).2.2.1
      clear hdB hcut0
      have HE : Hid (Own ((wr.alloc (.cells #[.string f.name, .slice A L cc, .int .i64 (f.safe : Int)] 76)).alloc (.cells #[] 5)) (wr.alloc (.cells #[.string f.name, .slice A L cc, .int .i64 (f.safe : Int)] 76)).heap.size (.slice (some ⟨bx + 1, 0, none⟩) 0 0) []) := Lib.hid (by have := own_empty (wr.alloc (.cells #[.string f.name, .slice A L cc, .int .i64 (f.safe : Int)] 76)) (Nat.le_refl _); rw [hzB] at this ⊢; exact this)
      go_wp2_with (at_builtin; go_loud (refine wpList_append_rd (v := .slice (some ⟨bx + 1, 0, none⟩) 0 0) rfl (.tmp 21) (.tmp 26) _ rfl ib Try.underlying40 hib hibz hibs hibb rfl HE.out rfl HCUT.out (by rw [HTL.out]; simp; omega) (by simp) ?_; intro v1 w1 ho1 hg1 _; have hbw1 : Below (wr.alloc (.cells #[.string f.name, .slice A L cc, .int .i64 (f.safe : Int)] 76)).heap.size (wr.alloc (.cells #[.string f.name, .slice A L cc, .int .i64 (f.safe : Int)] 76)) w1 := Own.below_grown ((Below.refl _ _).alloc (Nat.le_refl _) _) HE.out (Nat.le_refl _) (by simp) hg1; have hbx2 := HB2.out w1 hbw1; obtain ⟨A1, c1, hv1⟩ := ho1.form' HTL.out; subst hv1; clear hg1))
      clear HE
      rw [hzB] at ho1 hbw1
      obtain ⟨wa, hwa⟩ : ∃ wa, wa = (wr.alloc (.cells #[.string f.name, .slice A L cc, .int .i64 (f.safe : Int)] 76)) := ⟨_, rfl⟩
      have hlv2 : OutAt (wr.alloc (.cells #[.string f.name, .slice A L cc, .int .i64 (f.safe : Int)] 76)) B u5 ((crashM m.files keep).take k) := hlv.below ((Below.refl _ _).alloc (Nat.le_refl _) _)
      have hBbx : B ≤ bx := by rw [HBX.out]; exact hsr
      rw [← hwa] at hba HBOX hbw1 hzB hlv2
      clear hwa hsl HCUT HB2 hbx2 hlv
      rw [← HBX.out]
      obtain ⟨wq, hwq⟩ : ∃ wq : World, wq = wr := ⟨_, rfl⟩
      go_loopw [6, 9, 10, 11] (fun kk bv lv i wr => ∃ (j p : Nat) (out : List UInt8), f.safe + j ≤ L ∧ i = .int .i64 ((f.safe + j : Nat) : Int) ∧ kk = .int .i64 ((off + j : Nat) : Int) ∧ remP f.data f.safe K j = (out, p) ∧ lv = .int .i64 (out.length : Int) ∧ Own wr (bx + 1) bv (out ++ List.replicate p 0) ∧ Below (bx + 1) wa wr)
        (fun _ _ _ i _ => L - (intOf i).toNat)
      case atStart => exact ⟨0, 0, _, by omega, rfl, rfl, rfl, by rw [HTL.out], by simpa using ho1, hbw1⟩
      case round =>
        obtain ⟨j, p, out, hj, rfl, rfl, hst, rfl, ho, hbr⟩ := hrel
        obtain ⟨x0, x1, x2, hdd⟩ := HBOX.out _ hbr
        obtain ⟨t, ht⟩ : ∃ t, t = f.safe + j := ⟨_, rfl⟩
        obtain ⟨s, hs⟩ : ∃ s, s = off + j := ⟨_, rfl⟩
        have hln := remP_len f.data f.safe K (by have := HL.out; omega) j
        rw [hst] at hln
        simp only at hln
        rw [← ht] at hj hln ⊢
        rw [← hs]
        have t0 : (0 : Int) ≤ (t : Int) := by omega
        have t1 : (t : Int) ≤ 1000000000 := by omega
        have s1 : (s : Int) ≤ 2000000000 := by omega
        have hsz2 : bx + 1 ≤ wr.heap.size := by have := hbr.size; omega
        have hnb : (out ++ List.replicate p 0).length = t := by simp; omega
        obtain ⟨Ab, cb, rfl⟩ := ho.form' hnb
        have HO := Lib.hid ho
        have HNB := Lib.hid hnb
        have HT := Lib.hid ht
        have HS := Lib.hid hs
        have HST := Lib.hid hst
        have HLN := Lib.hid hln
        by_cases hlt2 : t < L
        · have t2 : (t : Int) < (L : Int) := by omega
          have hkg : K.getD j false = keep.getD s false := by rw [HKD.out]; simp [List.getD, List.getElem?_drop, HS.out]
          have hdx : f.data.getD (f.safe + j) 0 = f.data.getD t 0 := by rw [HT.out]
          have hpn : remP f.data f.safe K (j + 1) = remStep (out, p) (f.data.getD t 0, keep.getD s false) := by rw [remP, hst, hkg, hdx]
          have HPN := Lib.hid hpn
          have HBR : Hid (∀ w2 : World, ∀ (v : Value) (wy : World), Below (bx + 1) wr wy → bx + 1 ≤ wy.heap.size → Own wy (bx + 1) v (out ++ List.replicate p 0) → wy.grownBy w2 v.ownBlock → Below (bx + 1) wa w2) := Lib.hid fun w2 v wy hy hys ho hg => hbr.trans (Own.below_grown hy ho (Nat.le_refl _) hys hg)
          clear hpn hkg hdx ho hnb ht hs hst hln
          by_cases hsk : s < nk
          · have hsk2 : s < keep.length := by have := HNK.out; omega
            obtain ⟨gk, ok, rfl, hgk, hkc2⟩ := HKP.out (by omega)
            have ck0 := (hbr.cell (p := ⟨gk, ok + s, none⟩) (by show gk < bx + 1; omega)).trans ((hba.cell (p := ⟨gk, ok + s, none⟩) hgk).trans (hkc2 s hsk2))
            have s2 : (s : Int) < (nk : Int) := by omega
            have s3 : (0 : Int) ≤ (s : Int) := by omega
            have hgd : keep.getD s false = keep[s] := by simp [List.getD, List.getElem?_eq_getElem hsk2]
            rw [hgd] at HPN
            clear hkc2 hgd
            cases hkv : keep[s] with
            | false =>
              rw [hkv] at ck0 HPN
              clear hkv
              go_wp2_with (at_builtin; refine wpList_append_rd (v := .slice Ab t cb) rfl (.tmp 59) (.tmp 60) _ rfl ib Try.underlying40 hib hibz hibs hibb rfl (HO.out.alloc _) rfl (rd_lit _ _ [0] 1 rfl rfl (by unfold maxLen; omega)) (by rw [HNB.out]; simp; omega) (by simp; omega) ?_; intro v3 w3 ho3 hg3 _; have hb3 := HBR.out w3 _ _ ((Below.refl _ _).alloc hsz2 _) (by simp; omega) (HO.out.alloc _) hg3; obtain ⟨A3, c3, hv3⟩ := ho3.form' (show _ = t + 1 by rw [List.length_append, HNB.out]; rfl); subst hv3; clear hg3)
              refine ⟨⟨j + 1, p + 1, out, by have := HT.out; omega, congrArg (Value.int .i64) (by have := HT.out; omega), congrArg (Value.int .i64) (by have := HS.out; omega), by rw [HPN.out]; rfl, rfl, ?_, hb3⟩, by simp [intOf]; omega⟩
              rw [List.replicate_succ', ← List.append_assoc]
              exact ho3
            | true =>
              rw [hkv] at ck0 HPN
              clear hkv
              have hdt : t < f.data.length := by have := HL.out; omega
              obtain ⟨-, bd, od, rfl, hbd, hdc⟩ := (hdd.rd).cell (by omega)
              have cd := hdc t hdt
              have hgx : f.data.getD t 0 = f.data[t] := by simp [List.getD, List.getElem?_eq_getElem hdt]
              rw [hgx] at HPN
              unfold bval at cd
              clear hdc hgx
              generalize f.data[t] = x at *
              go_wp2_with (at_builtin; refine wpList_append_rd (v := .slice Ab t cb) rfl (.tmp 49) (.tmp 55) _ rfl ib Try.underlying40 hib hibz hibs hibb rfl (HO.out.alloc _) rfl (rd_lit _ _ [x] 1 rfl rfl (by unfold maxLen; omega)) (by rw [HNB.out]; simp; omega) (by simp; omega) ?_; intro v3 w3 ho3 hg3 _; have hb3 := HBR.out w3 _ _ ((Below.refl _ _).alloc hsz2 _) (by simp; omega) (HO.out.alloc _) hg3; obtain ⟨A3, c3, hv3⟩ := ho3.form' (show _ = t + 1 by rw [List.length_append, HNB.out]; rfl); subst hv3; clear hg3)
              refine ⟨⟨j + 1, 0, _, by have := HT.out; omega, congrArg (Value.int .i64) (by have := HT.out; omega), congrArg (Value.int .i64) (by have := HS.out; omega), HPN.out, congrArg (Value.int .i64) (by simp [remStep]; have := HLN.out; omega), ?_, hb3⟩, by simp [intOf]; omega⟩
              simpa [remStep] using ho3
          · have s4 : decide (s < nk) = false := by simp; omega
            have s5 : decide ((s : Int) < (nk : Int)) = false := by simp; omega
            have hgd : keep.getD s false = false := by have := HNK.out; simp [List.getD, List.getElem?_eq_none (show keep.length ≤ s by omega)]
            rw [hgd] at HPN
            clear hgd
            go_wp2_with (at_builtin; refine wpList_append_rd (v := .slice Ab t cb) rfl (.tmp 59) (.tmp 60) _ rfl ib Try.underlying40 hib hibz hibs hibb rfl (HO.out.alloc _) rfl (rd_lit _ _ [0] 1 rfl rfl (by unfold maxLen; omega)) (by rw [HNB.out]; simp; omega) (by simp; omega) ?_; intro v3 w3 ho3 hg3 _; have hb3 := HBR.out w3 _ _ ((Below.refl _ _).alloc hsz2 _) (by simp; omega) (HO.out.alloc _) hg3; obtain ⟨A3, c3, hv3⟩ := ho3.form' (show _ = t + 1 by rw [List.length_append, HNB.out]; rfl); subst hv3; clear hg3)
            refine ⟨⟨j + 1, p + 1, out, by have := HT.out; omega, congrArg (Value.int .i64) (by have := HT.out; omega), congrArg (Value.int .i64) (by have := HS.out; omega), by rw [HPN.out]; rfl, rfl, ?_, hb3⟩, by simp [intOf]; omega⟩
            rw [List.replicate_succ', ← List.append_assoc]
            exact ho3
        · have t2 : ¬ (t : Int) < (L : Int) := by omega
          obtain rfl : t = L := by omega
          have hrem : out = remM f K := by
            have e := remP_all f K (by have := HL.out; omega)
            have ej : f.data.length - f.safe = j := by have := HL.out; have := HT.out; omega
            rw [ej, hst] at e
            exact e
          have htk : (out ++ List.replicate p 0).take out.length = out := by simp
          have ho2 := ho.take (k := out.length) (by simp)
          rw [htk] at ho2
          have hcap : out.length ≤ cb := by
            rcases ho.2 with ⟨e, h0⟩ | ⟨g, cap, cur, e, _, _, hn, _⟩
            · injection e with _ _ e; omega
            · injection e with _ _ e; omega
          obtain ⟨lo, hlo⟩ : ∃ lo, lo = out.length := ⟨_, rfl⟩
          rw [← hlo] at ho2 hcap ⊢
          have hsl2 : ∀ W : World, (Instr.slice 40 (.slice Ab t cb) none (some (.int .i64 (lo : Int))) none).run Try.prog W = .ok (.slice Ab lo cb) W := run_slice_to _ _ ib Try.underlying40 hib Ab t cb lo hcap
          have hkk : (s : Int) = ((waitM (m.files.take (k + 1)) : Nat) : Int) := by rw [HWS.out]; have := HL.out; have := HT.out; have := HS.out; omega
          have HKK := Lib.hid hkk
          have HPUSH : Hid (∃ v3 w3, (Builtin.append_ #[22, 22] 22 #[u5, .slice (some ⟨wr.heap.size, 0, none⟩) 1 1]).run Try.prog (wr.drew.alloc (.cells #[.string f.name, .slice Ab lo cb] 62)) = .ok v3 w3 ∧
            OutAt w3 B v3 ((crashM m.files keep).take (k + 1)) ∧ Below B w w3 ∧ B ≤ w3.heap.size) := Lib.hid (by
            have hbr' : Below wa.heap.size wa wr.drew := by rw [hzB]; exact hbr.drew
            have hal : Below wr.drew.heap.size wr.drew (wr.drew.alloc (.cells #[.string f.name, .slice Ab lo cb] 62)) := (Below.refl _ _).alloc (Nat.le_refl _) _
            have hl3 := (hlv2.below hbr').below hal
            have hod : Own wr.drew (bx + 1) (.slice Ab lo cb) out := ho2
            have ho3 := (hod.more (B' := B) (by omega)).below hal
            have hB4 : Below B w (wr.drew.alloc (.cells #[.string f.name, .slice Ab lo cb] 62)) := (hba.trans (hbr.drew.mono (by omega))).trans (hal.mono (by show B ≤ wr.heap.size; omega))
            obtain ⟨v3, w3, hrun, ho4, hg4⟩ := hl3.push (P := Try.prog) 22 22 i0 Try.underlying22 hi hz hsz hby rfl f.name out _ ho3 (b := wr.drew.heap.size) (o := 0) (c := 1)
              (fun j x hj => by
                rw [addr_add_none', Nat.zero_add, blk_cell (heap_alloc_new wr.drew _) j]
                simpa using hj) (by rw [List.length_take, crashM_length]; omega) (by simp; omega)
            refine ⟨v3, w3, hrun, by rw [HCT.out, ← hrem]; exact ho4, hB4.trans ((Below.refl _ _).grown hg4 (by simp; omega) fun j hj => (hl3.lt j hj).1), Nat.le_trans (by simp; omega) hg4.size⟩)
          clear hst hln hs ht hnb ho ho2 hrem htk hlo hkk hbr hdd HST
          go_wp2_with fail
          go_region_law (first
            | (have hq := HPUSH.out; obtain ⟨v3, w3, hrun3, hfin3⟩ := hq; refine wp_append_run (.tmp 64) (.tmp 71) _ rfl rfl rfl hrun3 ?_)
            | fail)
          all_goals
            have HX := Lib.hid hfin3
            clear hfin3 hrun3 hsl2
            go_wp2_with fail
            exact ⟨⟨k + 1, by omega, by go_num, congrArg (Value.int .i64) HKK.out, HX.out⟩, by simp [intOf]; omega⟩
    · have i2 : ¬ (k : Int) < (n : Int) := by omega
      have he : (crashM m.files keep).take k = crashM m.files keep := List.take_of_length_le (by rw [crashM_length]; have := HN.out; omega)
      rw [he] at hlv
      have HX := Lib.hid (And.intro hlv hb)
      clear he hlv
      go_wp2
      go_ret
      exact ⟨_, rfl, by rw [← HB.out]; exact HX.out⟩
end Go.Proofs.Ytbbpkenbeenocaa
