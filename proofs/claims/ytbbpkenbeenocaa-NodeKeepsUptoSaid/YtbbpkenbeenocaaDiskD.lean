
/- The walks of a disk: Append, Sync, Read, Waiting. -/
import Derived.Test.YtbbpkenbeenocaaDiskC
import Derived.StillTailTactics
namespace Go.Proofs.Ytbbpkenbeenocaa
set_option maxRecDepth 100000
open Go Go.RowKit

variable {w : World} {F : Nat → Prop} {d : Nat} {m : DM}

theorem DiskAt.drew (h : DiskAt w F d m) : DiskAt w.drew F d m := h
theorem Chg.drew' {w' : World} (h : Chg w w' F) : Chg w w'.drew F := ⟨h.os, h.tape, h.output, h.size, h.block⟩

theorem add_any (h : DiskAt w F d m) (s : ByteArray) (hs : s.size ≤ maxLen) (b : List UInt8) (bv : Value) (hb : RdF w F bv b) (hlen : ∀ f ∈ m.files, f.data.length + b.length ≤ 140737488355328) (hlb : b.length ≤ 140737488355328) (hml : m.files.length ≤ 1000) :
    Calls Try.prog 64 #[.pointer (some ⟨d, 0, none⟩), .string s, bv] w fun e w' => e = .returned (.int .i64 (addM m s b).1) ∧ DiskAt w' (Ext F w w') d (addM m s b).2 ∧ Chg w w' F := by
  rcases findI_cases m.files s with ⟨k, hk, hp, hf⟩ | ⟨hp, hf⟩
  · have e : addM m s b = (0, { m with files := m.files.modify k fun f => { f with data := f.data ++ b } }) := by unfold addM; rw [hp, if_pos hk]
    rw [e]
    exact add_hit h s b bv hb.1 k hk hf (hlen _ (List.getElem_mem hk))
  · exact add_miss h s hs b bv hb hf hlb hml

theorem goes_files (m : DM) : (goesM m).2.files = m.files := by unfold goesM; split; rfl; split <;> rfl
/-- the disk when the power is off, or has just gone -/
def begM (m : DM) : DM := if m.off = true then m else (goesM m).2
theorem begin_yes (h : DiskAt w F d m) (hB : m.off = true ∨ (goesM m).1 = true) :
    Calls Try.prog 69 #[.pointer (some ⟨d, 0, none⟩)] w fun e w' => e = .returned (.int .i64 51) ∧ DiskAt w' F d (begM m) ∧ Chg w w' F :=
  (begin_any h).mono fun e w' ⟨h1, h2⟩ => ⟨by rw [h1, if_pos hB], h2⟩
theorem begin_no (h : DiskAt w F d m) (hB : ¬ (m.off = true ∨ (goesM m).1 = true)) :
    Calls Try.prog 69 #[.pointer (some ⟨d, 0, none⟩)] w fun e w' => e = .returned (.int .i64 0) ∧ DiskAt w' F d (goesM m).2 ∧ Chg w w' F :=
  (begin_any h).mono fun e w' ⟨h1, h2, h3⟩ => ⟨by rw [h1, if_neg hB], by rw [if_neg (fun e => hB (.inl e))] at h2; exact h2, h3⟩

set_option maxHeartbeats 400000 in
theorem append_any (h : DiskAt w F d m) (s : ByteArray) (hs : s.size ≤ maxLen) (b : List UInt8) (bv : Value) (hb : RdF w F bv b) (hlen : ∀ f ∈ m.files, f.data.length + b.length ≤ 140737488355328) (hlb : b.length ≤ 140737488355328) (hml : m.files.length ≤ 1000) :
    Calls Try.prog 43 #[.pointer (some ⟨d, 0, none⟩), .string s, bv] w fun e w' => e = .returned (.int .i64 (appendM m s b).1) ∧ DiskAt w' (Ext F w w') d (appendM m s b).2 ∧ Chg w w' F := by
  have c1 := h.offc
  have H0 := Lib.hid h
  have HL := Lib.hid hlen
  by_cases ho : m.off = true
  · have e : appendM m s b = (51, m) := by simp [appendM, ho]
    rw [e]
    rw [ho] at c1
    clear e ho h hlen
    go_enter Try.func43, Try.ntmps43
    go_wp2
    go_ret
    exact ⟨rfl, H0.out.ext (Nat.le_refl _) H0.out, Chg.refl _ _⟩
  · have ho' : m.off = false := by simpa using ho
    rw [ho'] at c1
    obtain ⟨gb, hgb⟩ : ∃ gb, gb = (goesM m).1 := ⟨_, rfl⟩
    have e : appendM m s b = (if gb = true then 51 else (addM (goesM m).2 s b).1, (addM (goesM m).2 s b).2) := by unfold appendM; rw [if_neg ho, hgb]
    rw [e]
    have HO := Lib.hid ho'
    have HG := Lib.hid hgb
    clear e ho ho' h hlen hgb
    cases gb
    all_goals
      go_enter Try.func43, Try.ntmps43
      go_wp2_with fail
      refine (goes_any H0.out HO.out).mono ?_
      rintro e w1 ⟨rfl, h1, hc1⟩
      rw [← HG.out]
      go_wp2_with fail
      have hb1 : RdF w1 F bv b := ⟨hb.chg hc1, hb.2⟩
      refine (add_any h1 s hs b bv hb1 (by rw [goes_files]; exact HL.out) hlb (by rw [goes_files]; exact hml)).mono ?_
      rintro e w2 ⟨rfl, h2, hc2⟩
      have hfin : DiskAt w2 (Ext F w w2) d (addM (goesM m).2 s b).2 ∧ Chg w w2 F := ⟨h2.widen hc1.size, hc1.trans' hc2⟩
      have HX := Lib.hid hfin
      clear hfin h2 hc2 h1 hc1 hb1
      go_wp2_with fail
      go_ret
      exact ⟨rfl, HX.out⟩

theorem opM_begin (m : DM) (f : DM → Int × DM) (h : ¬ (m.off = true ∨ (goesM m).1 = true)) : opM m f = f (goesM m).2 := by
  unfold opM
  rw [if_neg (fun e => h (.inl e)), if_neg (fun e => h (.inr e))]
theorem opM_off (m : DM) (f : DM → Int × DM) (h : m.off = true ∨ (goesM m).1 = true) : opM m f = (51, begM m) := by
  unfold opM begM
  by_cases e : m.off = true
  · rw [if_pos e, if_pos e]
  · rw [if_neg e, if_neg e, if_pos (h.resolve_left e)]

set_option maxHeartbeats 1000000 in
theorem sync_any (h : DiskAt w F d m) (s : ByteArray) :
    Calls Try.prog 56 #[.pointer (some ⟨d, 0, none⟩), .string s] w fun e w' => e = .returned (.int .i64 (syncM m s).1) ∧ DiskAt w' F d (syncM m s).2 ∧ Chg w w' F := by
  have H0 := Lib.hid h
  clear h
  by_cases hB : m.off = true ∨ (goesM m).1 = true
  · have e : syncM m s = (51, begM m) := opM_off m _ hB
    rw [e]
    have HB := Lib.hid hB
    clear e hB
    go_enter Try.func56, Try.ntmps56
    go_wp2_with fail
    refine (begin_yes H0.out HB.out).mono ?_
    rintro e w1 ⟨rfl, h1, hc1⟩
    have HX := Lib.hid (And.intro h1 hc1)
    clear h1 hc1
    go_wp2_with fail
    go_ret
    exact ⟨rfl, HX.out⟩
  · have e : syncM m s = _ := opM_begin m _ hB
    rw [e]
    have HB := Lib.hid hB
    obtain ⟨m1, hm1⟩ : ∃ m1, m1 = (goesM m).2 := ⟨_, rfl⟩
    have BN : Hid (Calls Try.prog 69 #[.pointer (some ⟨d, 0, none⟩)] w fun e w' => e = .returned (.int .i64 0) ∧ DiskAt w' F d m1 ∧ Chg w w' F) := Lib.hid (by rw [hm1]; exact begin_no H0.out hB)
    rw [← hm1]
    clear e hB hm1
    rcases findI_cases m1.files s with ⟨k, hk, hp, hf⟩ | ⟨hp, hf⟩
    · have e : (if placeF m1.files s < m1.files.length then ((0 : Int), ({ m1 with files := m1.files.modify (placeF m1.files s) fun f => { f with safe := f.data.length } } : DM)) else (50, m1)) = (0, { m1 with files := m1.files.modify k fun f => { f with safe := f.data.length } }) := by rw [hp, if_pos hk]
      rw [e]
      have HF := Lib.hid hf
      clear e hp hf
      go_enter Try.func56, Try.ntmps56
      go_wp2_with fail
      refine BN.out.mono ?_
      rintro e w1 ⟨rfl, h1, hc1⟩
      have H1 := Lib.hid h1
      clear h1
      go_wp2_with fail
      refine (find_any H1.out s).mono ?_
      rintro e w2 ⟨rfl, hb2⟩
      rw [HF.out]
      have h2 := H1.out.below hb2
      have hc2 := hc1.trans' (Chg.of_below hb2 F)
      clear hb2 hc1
      obtain ⟨g, o, c, A2, c2, c0, hcl, hcm, k1, k2, z1, z2, hdat, hsafe, _, _, hset⟩ := h2.slot k hk
      unfold maxLen at hcm
      have hfin := hset m1.files[k].data.length (Nat.le_refl _)
      have hmod : (m1.files.modify k fun f => { f with safe := m1.files[k].data.length }) = m1.files.modify k fun f => { f with safe := f.data.length } := by
        apply List.ext_getElem?
        intro j
        rw [List.getElem?_modify, List.getElem?_modify]
        by_cases e : k = j
        · subst e; simp [List.getElem?_eq_getElem hk]
        · simp [e]
      rw [hmod] at hfin
      have hfin2 := And.intro hfin.1 (hc2.trans' hfin.2)
      have HX := Lib.hid hfin2
      obtain ⟨n, hn⟩ : ∃ n, n = m1.files.length := ⟨_, rfl⟩
      have hk' := hk
      rw [← hn] at c0 hcl hk'
      have i1 : (0 : Int) ≤ (k : Int) := by omega
      have i2 : (k : Int) < (n : Int) := by omega
      clear hfin hfin2 hset hmod h2 hn hc2
      go_wp2_with fail
      go_still_tail 16, (by kernel_rfl)
      change wpList _ _ _ _ _ w2.drew
      go_wp2_with fail
      go_ret
      exact ⟨rfl, HX.out.1.drew, HX.out.2.drew'⟩
    · have e : (if placeF m1.files s < m1.files.length then ((0 : Int), ({ m1 with files := m1.files.modify (placeF m1.files s) fun f => { f with safe := f.data.length } } : DM)) else (50, m1)) = (50, m1) := by rw [hp, if_neg (by omega)]
      rw [e]
      have HF := Lib.hid hf
      clear e hp hf
      go_enter Try.func56, Try.ntmps56
      go_wp2_with fail
      refine BN.out.mono ?_
      rintro e w1 ⟨rfl, h1, hc1⟩
      have H1 := Lib.hid h1
      clear h1
      go_wp2_with fail
      refine (find_any H1.out s).mono ?_
      rintro e w2 ⟨rfl, hb2⟩
      rw [HF.out]
      have hfin := And.intro (H1.out.below hb2) (hc1.trans' (Chg.of_below hb2 F))
      have HX := Lib.hid hfin
      clear hfin hb2 hc1
      go_wp2_with fail
      go_ret
      exact ⟨rfl, HX.out⟩

theorem modify_none {fs : List FM} {s : ByteArray} (hp : placeF fs s = fs.length) : fs[placeF fs s]? = none := by rw [hp]; simp

set_option maxHeartbeats 1000000 in
theorem read_any (h : DiskAt w F d m) (s : ByteArray) (hlen : ∀ f ∈ m.files, f.data.length ≤ 140737488355320) :
    Calls Try.prog 28 #[.pointer (some ⟨d, 0, none⟩), .string s] w fun e w' => ∃ v, e = .returned (.tuple #[v, .int .i64 (readM m s).2]) ∧ Own w' w.heap.size v (readM m s).1 ∧ Below w.heap.size w w' := by
  have c1 := h.offc
  have H0 := Lib.hid h
  by_cases ho : m.off = true
  · have e : readM m s = ([], 51) := by simp [readM, ho]
    rw [e]
    rw [ho] at c1
    clear e ho h
    go_enter Try.func28, Try.ntmps28
    go_wp2
    go_ret2
    exact ⟨_, rfl, Own.nil _ _, Below.refl _ _⟩
  · have ho' : m.off = false := by simpa using ho
    rw [ho'] at c1
    rcases findI_cases m.files s with ⟨k, hk, hp, hf⟩ | ⟨hp, hf⟩
    · have e : readM m s = (m.files[k].data, 0) := by unfold readM; rw [if_neg ho, hp, List.getElem?_eq_getElem hk]
      rw [e]
      have hl := hlen _ (List.getElem_mem hk)
      have HF := Lib.hid hf
      clear e ho ho' h hf hp hlen
      go_enter Try.func28, Try.ntmps28
      go_wp2_with fail
      refine (find_any H0.out s).mono ?_
      rintro e w2 ⟨rfl, hb2⟩
      rw [HF.out]
      have h2 := H0.out.below hb2
      obtain ⟨g, o, c, A2, c2, c0, hcl, hcm, k1, _, _, _, hdat, _⟩ := h2.slot k hk
      unfold maxLen at hcm
      obtain ⟨n, hn⟩ : ∃ n, n = m.files.length := ⟨_, rfl⟩
      have hk' := hk
      rw [← hn] at c0 hcl hk'
      have i1 : (0 : Int) ≤ (k : Int) := by omega
      have i2 : (k : Int) < (n : Int) := by omega
      have HX := Lib.hid hb2
      clear h2 hn hb2 c1
      go_wp2_with fail
      refine (clone_any _ _ _ hdat.rd hl).mono ?_
      rintro e w3 ⟨v3, rfl, ho3, hb3⟩
      have hfin := And.intro (ho3.more HX.out.size) (below_chain HX.out HX.out.size hb3)
      have HY := Lib.hid hfin
      clear hfin ho3 hb3
      go_wp2_with fail
      go_ret2
      exact ⟨_, rfl, HY.out⟩
    · have e : readM m s = ([], 50) := by unfold readM; rw [if_neg ho, modify_none hp]
      rw [e]
      have HF := Lib.hid hf
      clear e ho ho' h hf hp
      go_enter Try.func28, Try.ntmps28
      go_wp2_with fail
      refine (find_any H0.out s).mono ?_
      rintro e w2 ⟨rfl, hb2⟩
      rw [HF.out]
      have HX := Lib.hid hb2
      clear hb2
      go_wp2_with fail
      go_ret2
      exact ⟨_, rfl, Own.nil _ _, HX.out⟩

set_option maxHeartbeats 1000000 in
theorem waiting_any (h : DiskAt w F d m) (hlen : totM m.files ≤ 1000000000) :
    Calls Try.prog 23 #[.pointer (some ⟨d, 0, none⟩)] w fun e w' => e = .returned (.int .i64 (waitM m.files : Nat)) ∧ Below w.heap.size w w' := by
  obtain ⟨fv, u, hd, hF, hf, hlt, hl⟩ := h
  have c0 : w.cell? ⟨d, 0, none⟩ = some fv := blk_cell hd 0
  obtain ⟨A, c, rfl, hc, hcm⟩ := hf.form
  unfold maxLen at hcm
  obtain ⟨n, hn⟩ : ∃ n, n = m.files.length := ⟨_, rfl⟩
  have HN := Lib.hid hn
  rw [← hn] at hc c0
  have HFF := Lib.hid hf
  have HLEN := Lib.hid hlen
  clear hn hd hf hlen
  go_enter Try.func23, Try.ntmps23
  go_wp2
  go_loopw [3, 13] (fun s i wr => ∃ k : Nat, k ≤ n ∧ i = .int .i64 (k : Int) ∧ s = .int .i64 (waitM (m.files.take k) : Nat) ∧ Below w.heap.size w wr)
    (fun _ i _ => n - (intOf i).toNat)
  case atStart => exact ⟨0, Nat.zero_le _, rfl, rfl, Below.refl _ _⟩
  case round =>
    obtain ⟨k, hk, rfl, rfl, hb⟩ := hrel
    by_cases hlt' : k < n
    · have hkl : k < m.files.length := by have := HN.out; omega
      obtain ⟨g, o, dv, rfl, hFg, hgl, _, k0, k1, k2, _, hdat, hsafe, _⟩ := (HFF.out).at_ (by decide) k hkl
      obtain ⟨A, cc, rfl⟩ := hdat.form
      have c0' := (hb.cell (p := ⟨g, o + k * 3, none⟩) hgl).trans k0
      have c1' := (hb.cell (p := ⟨g, o + k * 3 + 1, none⟩) hgl).trans k1
      have c2' := (hb.cell (p := ⟨g, o + k * 3 + 2, none⟩) hgl).trans k2
      have hw := Lib.hid (waitM_take_succ m.files k hkl)
      have hle : waitM (m.files.take k) ≤ 1000000000 := Nat.le_trans (Nat.le_trans (waitM_le _) (totM_take _ _)) HLEN.out
      have hdl : m.files[k].data.length ≤ 1000000000 := Nat.le_trans (totM_mem (List.getElem_mem hkl)) HLEN.out
      clear k0 k1 k2 hdat
      have i1 : (0 : Int) ≤ (k : Int) := by omega
      have i2 : (k : Int) < (n : Int) := by omega
      generalize waitM (m.files.take k) = q at *
      go_wp2_with fail
      exact ⟨⟨k + 1, by omega, by go_num, by rw [hw.out]; exact congrArg (Value.int .i64) (by omega), hb.alloc hb.size _⟩, by simp [intOf]; omega⟩
    · have i2 : ¬ (k : Int) < (n : Int) := by omega
      have he : m.files.take k = m.files := List.take_of_length_le (by have := HN.out; omega)
      rw [he]
      clear he
      go_wp2
      go_ret
      exact ⟨rfl, hb⟩
end Go.Proofs.Ytbbpkenbeenocaa
