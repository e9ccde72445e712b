
/- The document's disk: Append, Sync, Read, Waiting. -/
import Derived.Test.YtbbpkenbeenocaaRDiskC
import Derived.Test.YtbbpkenbeenocaaDiskD
import Derived.Test.YtbbpkenbeenocaaDiskE
namespace Go.Proofs.Ytbbpkenbeenocaa
set_option maxRecDepth 100000
open Go Go.RowKit
set_option linter.unusedVariables false

variable {w : World} {F : Nat → Prop} {d : Nat} {m : DM}

set_option maxHeartbeats 400000 in
theorem rappend_any (h : RefAt w F d m) (s : ByteArray) (hs : s.size ≤ maxLen) (b : List UInt8) (bv : Value) (hb : RdF w F bv b) (hlen : ∀ f ∈ m.files, f.data.length + b.length ≤ 140737488355328) (hlb : b.length ≤ 140737488355328) (hml : m.files.length ≤ 1000) :
    Calls Try.prog 47 #[.pointer (some ⟨d, 0, none⟩), .string s, bv] w fun e w' => e = .returned (.int .i64 (appendM m s b).1) ∧ RefAt w' (Ext F w w') d (appendM m s b).2 ∧ Chg w w' F := by
  have c1 := h.offc
  have H0 := Lib.hid h
  have HL := Lib.hid hlen
  by_cases ho : m.off = true
  · have e : appendM m s b = (51, m) := by simp [appendM, ho]
    rw [e]
    rw [ho] at c1
    clear e ho h hlen
    go_enter Try.func47, Try.ntmps47
    go_wp2
    go_ret
    exact ⟨rfl, H0.out.ext (Nat.le_refl _) H0.out, Chg.refl _ _⟩
  · have ho' : m.off = false := by simpa using ho
    rw [ho'] at c1
    obtain ⟨gb, hgb⟩ : ∃ gb, gb = (goesM m).1 := ⟨_, rfl⟩
    have e : appendM m s b = (if gb = true then 51 else (addM (goesM m).2 s b).1, (addM (goesM m).2 s b).2) := by unfold appendM; rw [if_neg ho, hgb]
    rw [e]
    have HO := Lib.hid ho'
    have HG := Lib.hid hgb
    clear e ho ho' h hlen hgb
    cases gb
    all_goals
      go_enter Try.func47, Try.ntmps47
      go_wp2_with fail
      refine (rgoes_any H0.out HO.out).mono ?_
      rintro e w1 ⟨rfl, h1, hc1⟩
      rw [← HG.out]
      go_wp2_with fail
      have hb1 : RdF w1 F bv b := ⟨hb.chg hc1, hb.2⟩
      refine (radd_any h1 s hs b bv hb1 (by rw [goes_files]; exact HL.out) hlb (by rw [goes_files]; exact hml)).mono ?_
      rintro e w2 ⟨rfl, h2, hc2⟩
      have hfin : RefAt w2 (Ext F w w2) d (addM (goesM m).2 s b).2 ∧ Chg w w2 F := ⟨h2.widen hc1.size, hc1.trans' hc2⟩
      have HX := Lib.hid hfin
      clear hfin h2 hc2 h1 hc1 hb1
      go_wp2_with fail
      go_ret
      exact ⟨rfl, HX.out⟩

set_option maxHeartbeats 1000000 in
theorem rsync_any (h : RefAt w F d m) (s : ByteArray) :
    Calls Try.prog 49 #[.pointer (some ⟨d, 0, none⟩), .string s] w fun e w' => e = .returned (.int .i64 (syncM m s).1) ∧ RefAt w' F d (syncM m s).2 ∧ Chg w w' F := by
  have c1 := h.offc
  have H0 := Lib.hid h
  clear h
  by_cases ho : m.off = true
  · have e : syncM m s = (51, m) := by simp [syncM, opM, ho]
    rw [e]
    rw [ho] at c1
    clear e ho
    go_enter Try.func49, Try.ntmps49
    go_wp2
    go_ret
    exact ⟨rfl, H0.out, Chg.refl _ _⟩
  · have ho' : m.off = false := by simpa using ho
    rw [ho'] at c1
    have HO := Lib.hid ho'
    by_cases hg : (goesM m).1 = true
    · have e : syncM m s = (51, (goesM m).2) := by simp [syncM, opM, ho', hg]
      rw [e]
      have HG := Lib.hid hg
      clear e ho ho' hg
      go_enter Try.func49, Try.ntmps49
      go_wp2_with fail
      refine (rgoes_any H0.out HO.out).mono ?_
      rintro e w1 ⟨rfl, h1, hc1⟩
      rw [HG.out]
      have HX := Lib.hid (And.intro h1 hc1)
      clear h1 hc1 c1
      go_wp2_with fail
      go_ret
      exact ⟨rfl, HX.out⟩
    · have hg' : (goesM m).1 = false := by simpa using hg
      have e : syncM m s = _ := opM_begin m _ (fun e => e.elim ho hg)
      rw [e]
      have HG := Lib.hid hg'
      obtain ⟨m1, hm1⟩ : ∃ m1, m1 = (goesM m).2 := ⟨_, rfl⟩
      have BN : Hid (Calls Try.prog 65 #[.pointer (some ⟨d, 0, none⟩)] w fun e w' => e = .returned (.bool false) ∧ RefAt w' F d m1 ∧ Chg w w' F) := Lib.hid (by rw [hm1]; have := rgoes_any H0.out HO.out; rw [HG.out] at this; exact this)
      rw [← hm1]
      clear e ho ho' hg hg' hm1
      rcases findI_cases m1.files s with ⟨k, hk, hp, hf⟩ | ⟨hp, hf⟩
      · have e : (if placeF m1.files s < m1.files.length then ((0 : Int), ({ m1 with files := m1.files.modify (placeF m1.files s) fun f => { f with safe := f.data.length } } : DM)) else (50, m1)) = (0, { m1 with files := m1.files.modify k fun f => { f with safe := f.data.length } }) := by rw [hp, if_pos hk]
        rw [e]
        have HF := Lib.hid hf
        clear e hp hf
        go_enter Try.func49, Try.ntmps49
        go_wp2_with fail
        refine BN.out.mono ?_
        rintro e w1 ⟨rfl, h1, hc1⟩
        have H1 := Lib.hid h1
        clear h1
        go_wp2_with fail
        refine (rfind_any H1.out s).mono ?_
        rintro e w2 ⟨rfl, hb2⟩
        rw [HF.out]
        have h2 := H1.out.below hb2
        have hc2 := hc1.trans' (Chg.of_below hb2 F)
        clear hb2 hc1
        obtain ⟨g, o, c, A2, c2, c0, hcl, hcm, k1, k2, z1, z2, hdat, hsafe, _, _, hset⟩ := h2.slot k hk
        unfold maxLen at hcm
        have hfin := hset m1.files[k].data.length (Nat.le_refl _)
        have hmod : (m1.files.modify k fun f => { f with safe := m1.files[k].data.length }) = m1.files.modify k fun f => { f with safe := f.data.length } := by
          apply List.ext_getElem?
          intro j
          rw [List.getElem?_modify, List.getElem?_modify]
          by_cases e : k = j
          · subst e; simp [List.getElem?_eq_getElem hk]
          · simp [e]
        rw [hmod] at hfin
        have hfin2 := And.intro hfin.1 (hc2.trans' hfin.2)
        have HX := Lib.hid hfin2
        obtain ⟨n, hn⟩ : ∃ n, n = m1.files.length := ⟨_, rfl⟩
        have hk' := hk
        rw [← hn] at c0 hcl hk'
        have i1 : (0 : Int) ≤ (k : Int) := by omega
        have i2 : (k : Int) < (n : Int) := by omega
        clear hfin hfin2 hset hmod h2 hn hc2
        go_wp2_with fail
        go_still_tail 16, (by kernel_rfl)
        change wpList _ _ _ _ _ w2.drew
        go_wp2_with fail
        go_ret
        exact ⟨rfl, HX.out.1.drew, HX.out.2.drew'⟩
      · have e : (if placeF m1.files s < m1.files.length then ((0 : Int), ({ m1 with files := m1.files.modify (placeF m1.files s) fun f => { f with safe := f.data.length } } : DM)) else (50, m1)) = (50, m1) := by rw [hp, if_neg (by omega)]
        rw [e]
        have HF := Lib.hid hf
        clear e hp hf
        go_enter Try.func49, Try.ntmps49
        go_wp2_with fail
        refine BN.out.mono ?_
        rintro e w1 ⟨rfl, h1, hc1⟩
        have H1 := Lib.hid h1
        clear h1
        go_wp2_with fail
        refine (rfind_any H1.out s).mono ?_
        rintro e w2 ⟨rfl, hb2⟩
        rw [HF.out]
        have hfin := And.intro (H1.out.below hb2) (hc1.trans' (Chg.of_below hb2 F))
        have HX := Lib.hid hfin
        clear hfin hb2 hc1
        go_wp2_with fail
        go_ret
        exact ⟨rfl, HX.out⟩

set_option maxHeartbeats 1000000 in
theorem rread_any (h : RefAt w F d m) (s : ByteArray) (hlen : ∀ f ∈ m.files, f.data.length ≤ 140737488355320) :
    Calls Try.prog 57 #[.pointer (some ⟨d, 0, none⟩), .string s] w fun e w' => ∃ v, e = .returned (.tuple #[v, .int .i64 (readM m s).2]) ∧ Own w' w.heap.size v (readM m s).1 ∧ Below w.heap.size w w' := by
  have c1 := h.offc
  have H0 := Lib.hid h
  by_cases ho : m.off = true
  · have e : readM m s = ([], 51) := by simp [readM, ho]
    rw [e]
    rw [ho] at c1
    clear e ho h
    go_enter Try.func57, Try.ntmps57
    go_wp2
    go_ret2
    exact ⟨_, rfl, Own.nil _ _, Below.refl _ _⟩
  · have ho' : m.off = false := by simpa using ho
    rw [ho'] at c1
    rcases findI_cases m.files s with ⟨k, hk, hp, hf⟩ | ⟨hp, hf⟩
    · have e : readM m s = (m.files[k].data, 0) := by unfold readM; rw [if_neg ho, hp, List.getElem?_eq_getElem hk]
      rw [e]
      have hl := hlen _ (List.getElem_mem hk)
      have HF := Lib.hid hf
      clear e ho ho' h hf hp hlen
      go_enter Try.func57, Try.ntmps57
      go_wp2_with fail
      refine (rfind_any H0.out s).mono ?_
      rintro e w2 ⟨rfl, hb2⟩
      rw [HF.out]
      have h2 := H0.out.below hb2
      obtain ⟨g, o, c, A2, c2, c0, hcl, hcm, k1, _, _, _, hdat, _⟩ := h2.slot k hk
      unfold maxLen at hcm
      obtain ⟨n, hn⟩ : ∃ n, n = m.files.length := ⟨_, rfl⟩
      have hk' := hk
      rw [← hn] at c0 hcl hk'
      have i1 : (0 : Int) ≤ (k : Int) := by omega
      have i2 : (k : Int) < (n : Int) := by omega
      have HX := Lib.hid hb2
      clear h2 hn hb2 c1
      obtain ⟨i0, hi, hz, hsz, hby⟩ := info_parts Try.infoByte
      have hcd : w2.cell? ⟨d, 0, none⟩ = some (.slice (some ⟨g, o, none⟩) n c) := c0
      have c0a := (World.cell?_alloc_some w2 ⟨d, 0, none⟩ (.cells #[] 5) (by rw [c0]; rfl)).trans c0
      have k1a := (World.cell?_alloc_some w2 ⟨g, o + k * 3 + 1, none⟩ (.cells #[] 5) (by rw [k1]; rfl)).trans k1
      have HSRC : Hid (Rd (w2.alloc (.cells #[] 5)) w2.heap.size (.slice A2 m.files[k].data.length c2) m.files[k].data) := Lib.hid (hdat.rd.below ((Below.refl _ _).alloc (Nat.le_refl _) _))
      clear hcd
      go_wp2_with (at_builtin; refine wpList_append_rd (v := .slice (some ⟨w2.heap.size, 0, none⟩) 0 0) rfl (.tmp 16) (.tmp 24) _ rfl i0 Try.underlying40 hi hz hsz hby rfl (own_empty w2 (Nat.le_refl _)) rfl HSRC.out (by simp; omega) (by simp) ?_; intro v3 w3 ho3 hg3 _; have hfin : Own w3 w.heap.size v3 m.files[k].data ∧ Below w.heap.size w w3 := ⟨(Own.more ho3 HX.out.size), below_chain HX.out HX.out.size (Own.below_grown ((Below.refl _ _).alloc (Nat.le_refl _) _) (own_empty w2 (Nat.le_refl _)) (Nat.le_refl _) (by simp) hg3)⟩; have HY := Lib.hid hfin; clear hfin ho3 hg3)
      go_ret2
      exact ⟨_, rfl, HY.out⟩
    · have e : readM m s = ([], 50) := by unfold readM; rw [if_neg ho, modify_none hp]
      rw [e]
      have HF := Lib.hid hf
      clear e ho ho' h hf hp
      go_enter Try.func57, Try.ntmps57
      go_wp2_with fail
      refine (rfind_any H0.out s).mono ?_
      rintro e w2 ⟨rfl, hb2⟩
      rw [HF.out]
      have HX := Lib.hid hb2
      clear hb2
      go_wp2_with fail
      go_ret2
      exact ⟨_, rfl, Own.nil _ _, HX.out⟩

set_option maxHeartbeats 1000000 in
theorem rwaiting_any (h : RefAt w F d m) (hlen : totM m.files ≤ 1000000000) :
    Calls Try.prog 24 #[.pointer (some ⟨d, 0, none⟩)] w fun e w' => e = .returned (.int .i64 (waitM m.files : Nat)) ∧ Below w.heap.size w w' := by
  obtain ⟨fv, u, hd, hF, hf, hlt, hl⟩ := h
  have c0 : w.cell? ⟨d, 0, none⟩ = some fv := blk_cell hd 0
  obtain ⟨A, c, rfl, hc, hcm⟩ := hf.form
  unfold maxLen at hcm
  obtain ⟨n, hn⟩ : ∃ n, n = m.files.length := ⟨_, rfl⟩
  have HN := Lib.hid hn
  rw [← hn] at hc c0
  have HFF := Lib.hid hf
  have HLEN := Lib.hid hlen
  clear hn hd hf hlen
  go_enter Try.func24, Try.ntmps24
  go_wp2
  go_loopw [3, 11] (fun s i wr => ∃ k : Nat, k ≤ n ∧ i = .int .i64 (k : Int) ∧ s = .int .i64 (waitM (m.files.take k) : Nat) ∧ Below w.heap.size w wr)
    (fun _ i _ => n - (intOf i).toNat)
  case atStart => exact ⟨0, Nat.zero_le _, rfl, rfl, Below.refl _ _⟩
  case round =>
    obtain ⟨k, hk, rfl, rfl, hb⟩ := hrel
    by_cases hlt' : k < n
    · have hkl : k < m.files.length := by have := HN.out; omega
      obtain ⟨g, o, dv, rfl, hFg, hgl, _, k0, k1, k2, _, hdat, hsafe, _⟩ := (HFF.out).at_ (by decide) k hkl
      obtain ⟨A, cc, rfl⟩ := hdat.form
      have c0' := (hb.cell (p := ⟨g, o + k * 3, none⟩) hgl).trans k0
      have c1' := (hb.cell (p := ⟨g, o + k * 3 + 1, none⟩) hgl).trans k1
      have c2' := (hb.cell (p := ⟨g, o + k * 3 + 2, none⟩) hgl).trans k2
      have hw := Lib.hid (waitM_take_succ m.files k hkl)
      have hle : waitM (m.files.take k) ≤ 1000000000 := Nat.le_trans (Nat.le_trans (waitM_le _) (totM_take _ _)) HLEN.out
      have hdl : m.files[k].data.length ≤ 1000000000 := Nat.le_trans (totM_mem (List.getElem_mem hkl)) HLEN.out
      clear k0 k1 k2 hdat
      have i1 : (0 : Int) ≤ (k : Int) := by omega
      have i2 : (k : Int) < (n : Int) := by omega
      generalize waitM (m.files.take k) = q at *
      go_wp2_with fail
      exact ⟨⟨k + 1, by omega, by go_num, by rw [hw.out]; exact congrArg (Value.int .i64) (by omega), hb.alloc hb.size _⟩, by simp [intOf]; omega⟩
    · have i2 : ¬ (k : Int) < (n : Int) := by omega
      have he : m.files.take k = m.files := List.take_of_length_le (by have := HN.out; omega)
      rw [he]
      clear he
      go_wp2
      go_ret
      exact ⟨rfl, hb⟩
end Go.Proofs.Ytbbpkenbeenocaa
