
/- The document's disk: bytes are put behind a file's. -/
import Derived.Test.YtbbpkenbeenocaaRDiskB
import Derived.Test.YtbbpkenbeenocaaDiskC
namespace Go.Proofs.Ytbbpkenbeenocaa
set_option maxRecDepth 100000
open Go Go.RowKit
set_option linter.unusedVariables false

variable {w : World} {F : Nat → Prop} {d : Nat} {m : DM}
set_option maxHeartbeats 1000000 in
theorem radd_hit (h : RefAt w F d m) (s : ByteArray) (b : List UInt8) (bv : Value) (hb : Rd w w.heap.size bv b) (k : Nat) (hk : k < m.files.length) (hf : findI m.files s = (k : Int)) (hlen : m.files[k].data.length + b.length ≤ 140737488355328) :
    Calls Try.prog 66 #[.pointer (some ⟨d, 0, none⟩), .string s, bv] w fun e w' => e = .returned (.int .i64 0) ∧ RefAt w' (Ext F w w') d { m with files := m.files.modify k fun f => { f with data := f.data ++ b } } ∧ Chg w w' F := by
  obtain ⟨i0, hi, hz, hsz, hby⟩ := info_parts Try.infoByte
  have i1 : (0 : Int) ≤ (k : Int) := by omega
  have HF := Lib.hid hf
  have H0 := Lib.hid h
  clear hf h
  go_enter Try.func66, Try.ntmps66
  go_wp2_with fail
  refine (rfind_any H0.out s).mono ?_
  rintro e w1 ⟨rfl, hb1⟩
  rw [HF.out]
  have hc1 := Chg.of_below hb1 F
  have H1 := Lib.hid (H0.out.below hb1)
  have hb' := hb.up (Nat.le_refl _) hb1
  clear hb hb1
  obtain ⟨g, o, c, A2, c2, c0, hcl, hcm, k1, _, z1, _, hdat, hsafe, hkp, hset, _⟩ := H1.out.slot k hk
  unfold maxLen at hcm
  obtain ⟨n, hn⟩ : ∃ n, n = m.files.length := ⟨_, rfl⟩
  have hk' := hk
  rw [← hn] at c0 hcl hk'
  have i2 : (k : Int) < (n : Int) := by omega
  have HKP : Hid (∀ W' : World, w1.drew.grownBy W' (Value.slice A2 m.files[k].data.length c2).ownBlock → W'.cell? ⟨d, 0, none⟩ = some (.slice (some ⟨g, o, none⟩) n c) ∧ W'.cell? ⟨g, o + k * 3 + 1, none⟩ = some (.slice A2 m.files[k].data.length c2) ∧ W'.frozen? ⟨g, o + k * 3 + 1, none⟩ = false) :=
    Lib.hid fun W' hg => by have := hkp W' ⟨hg.os, hg.tape, hg.output, hg.size, hg.block⟩; rw [← hn] at this; exact this
  have HFIN : Hid (∀ (w2 : World) (v2 : Value), Dat w2 v2 (m.files[k].data ++ b) → w1.drew.grownBy w2 (Value.slice A2 m.files[k].data.length c2).ownBlock → (v2.ownBlock = (Value.slice A2 m.files[k].data.length c2).ownBlock ∨ v2.ownBlock = some w1.drew.heap.size) →
      RefAt (w2.setCell ⟨g, o + k * 3 + 1, none⟩ v2) (Ext F w (w2.setCell ⟨g, o + k * 3 + 1, none⟩ v2)) d { m with files := m.files.modify k fun f => { f with data := f.data ++ b } } ∧ Chg w (w2.setCell ⟨g, o + k * 3 + 1, none⟩ v2) F) := Lib.hid fun w2 v2 hd2 hg2 hat2 => by
    have := hset w2 v2 (m.files[k].data ++ b) hd2 (by rw [List.length_append]; omega) ⟨hg2.os, hg2.tape, hg2.output, hg2.size, hg2.block⟩ hat2
    rw [modify_data m.files k hk b] at this
    exact ⟨this.1.widen hc1.size, hc1.trans' this.2⟩
  clear hn hset hkp hc1
  go_wp2_with fail
  go_region_law (refine wp_append_dat (v := Value.slice A2 m.files[k].data.length c2) (.tmp 53) (.tmp 54) _ rfl i0 Try.underlying40 hi hz hsz hby rfl hdat rfl hb' hlen ?_; intro v2 w2 hd2 hg2 hat2; obtain ⟨q0, q1, q2⟩ := HKP.out _ hg2; obtain ⟨A3, c3, hv2⟩ := hd2.form; subst hv2)
  all_goals
    have hfin := HFIN.out _ _ hd2 hg2 hat2
    rw [List.length_append] at hfin
    have HX := Lib.hid hfin
    clear hfin hd2 hat2
    go_wp2_with fail
    go_ret
    exact ⟨rfl, HX.out⟩

theorem Try.infoRFile : (Try.prog.info? 76).map (fun i => (i.zero, i.size, i.bytes)) = some (some (.agg #[.string ⟨#[]⟩, .slice none 0 0, .int .i64 0]), 3, 48) := by kernel_rfl

/-- a disk's row of files with one more -/
theorem RefAt.push (h : RefAt w F d m) (s : ByteArray) (hlen : m.files.length ≤ 1000) (t ty : TypeId) (ht : Try.prog.underlying t = some (.slice 76)) :
    ∃ fv A c w', w.cell? ⟨d, 0, none⟩ = some fv ∧ (Builtin.append_ #[t, t] ty #[fv, .slice (some ⟨w.heap.size, 0, none⟩) 1 1]).run Try.prog (w.alloc (.cells #[.string s, .slice none 0 0, .int .i64 0] 76)) = .ok (.slice A (m.files.length + 1) c) w' ∧
      w'.cell? ⟨d, 0, none⟩ = some fv ∧ w'.frozen? ⟨d, 0, none⟩ = false ∧ RefAt (w'.setCell ⟨d, 0, none⟩ (.slice A (m.files.length + 1) c)) (Ext F w (w'.setCell ⟨d, 0, none⟩ (.slice A (m.files.length + 1) c))) d { m with files := m.files ++ [⟨s, [], 0⟩] } ∧ Chg w (w'.setCell ⟨d, 0, none⟩ (.slice A (m.files.length + 1) c)) F := by
  obtain ⟨i0, hi, hz, hsz, hby⟩ := info_parts Try.infoRFile
  obtain ⟨fv, u, hd, hFd, hfl, hlt, hl⟩ := h
  have hal : Below w.heap.size w (w.alloc (.cells #[.string s, .slice none 0 0, .int .i64 0] 76)) := (Below.refl _ _).alloc (Nat.le_refl _) _
  have hfl' : FilesAt 76 (w.alloc (.cells #[.string s, .slice none 0 0, .int .i64 0] 76)) F fv m.files := hfl.keep fun k hk _ => hal.block k hk
  have hd' := (hal.block d (blk_lt hd)).trans hd
  have hfv : ∀ k, fv.ownBlock = some k → F k ∧ k ≠ d := fun k hk => by
    obtain ⟨ps, h1, h2, h3, h4, h5⟩ := hfl
    refine ⟨h3 k hk, fun e => ?_⟩
    subst e
    rcases h2.2 with ⟨rfl, h0⟩ | ⟨g, cap, cur, rfl, hB, hg, _⟩
    · simp [Value.ownBlock] at hk
    · simp only [Value.ownBlock, Option.some.injEq] at hk
      subst hk
      rw [hd] at hg
      injection hg with hg
      injection hg with _ hg _
      exact absurd hg (by decide)
  obtain ⟨v', w', hrun, hf2, hg2⟩ := hfl'.push (P := Try.prog) (by decide) t ty i0 ht hi hz hsz hby (by omega) rfl (fun k hk => Nat.lt_of_lt_of_le (hlt k hk) hal.size) ⟨s, [], 0⟩ (.slice none 0 0) (Dat.nil _) (by simp) (by simp [Value.ownBlock]) (by simp [Value.ownBlock])
    (b := w.heap.size) (o := 0) (c := 1) (fun j x hj => by
      have hb := heap_alloc_new w (.cells #[.string s, .slice none 0 0, .int .i64 0] 76)
      rw [addr_add_none', Nat.zero_add, blk_cell hb j]
      simpa using hj) hlen
  obtain ⟨A, c, rfl, _⟩ := hf2.form
  have hne : fv.ownBlock ≠ some d := fun e => (hfv d e).2 rfl
  have hdl : d < (w.alloc (.cells #[.string s, .slice none 0 0, .int .i64 0] 76)).heap.size := blk_lt hd'
  have hd2 := (hg2.block d hdl fun e => hne e.symm).trans hd'
  have hfl2 : (m.files ++ [(⟨s, [], 0⟩ : FM)]).length = m.files.length + 1 := by simp
  rw [hfl2] at hrun hf2
  have hsz : (w'.setCell ⟨d, 0, none⟩ (.slice A (m.files.length + 1) c)).heap.size = w'.heap.size := by simp [World.setCell]
  have hc : Chg w (w'.setCell ⟨d, 0, none⟩ (.slice A (m.files.length + 1) c)) F :=
    ((Chg.of_below hal F).trans' (Chg.of_grown hg2 fun k hk => (hfv k hk).1)).trans' (Chg.set w' (p := ⟨d, 0, none⟩) hFd _)
  refine ⟨fv, A, c, w', blk_cell hd 0, hrun, blk_cell hd2 0, blk_free hd2 0, ⟨⟨_, u, blk_set hd2 0 _, .inl hFd, ?_, Ext.lt hlt hc.size, hl⟩, hc⟩⟩
  have hf3 : FilesAt 76 w' (Ext F w w') (.slice A (m.files.length + 1) c) (m.files ++ [⟨s, [], 0⟩]) := hf2.mono fun k hk => hk.imp id fun hk => ⟨Nat.le_trans hal.size hk.1, hk.2⟩
  exact (hf3.set_apart hd2 (by decide) (by decide) 0 _).mono fun k hk => hk.imp id fun hk => ⟨hk.1, by rw [hsz]; exact hk.2⟩

set_option maxHeartbeats 1000000 in
theorem radd_miss (h : RefAt w F d m) (s : ByteArray) (hs : s.size ≤ maxLen) (b : List UInt8) (bv : Value) (hb : RdF w F bv b) (hf : findI m.files s = -1) (hlen : b.length ≤ 140737488355328) (hml : m.files.length ≤ 1000) :
    Calls Try.prog 66 #[.pointer (some ⟨d, 0, none⟩), .string s, bv] w fun e w' => e = .returned (.int .i64 (addM m s b).1) ∧ RefAt w' (Ext F w w') d (addM m s b).2 ∧ Chg w w' F := by
  have hpl := findI_neg hf
  have HF := Lib.hid hf
  have H0 := Lib.hid h
  have hNE : ∀ W W' : World, Below W.heap.size w W → True := fun _ _ _ => trivial
  clear hNE
  by_cases hn : namedB s = false ∨ 16 ≤ m.files.length
  · have ea : addM m s b = (50, m) := by unfold addM; rw [hpl, if_neg (by omega), if_pos hn]
    rw [ea]
    clear ea hf
    obtain ⟨n, hnn⟩ : ∃ n, n = m.files.length := ⟨_, rfl⟩
    have HNN := Lib.hid hnn
    by_cases hn1 : namedB s = false
    · have HN1 := Lib.hid hn1
      clear hn hn1 h hpl hnn
      go_enter Try.func66, Try.ntmps66
      go_wp2_with fail
      refine (rfind_any H0.out s).mono ?_
      rintro e w1 ⟨rfl, hb1⟩
      rw [HF.out]
      have h1 := H0.out.below hb1
      go_wp2_with fail
      refine (rright_any s _ hs).mono ?_
      rintro e w2 ⟨rfl, rfl⟩
      rw [HN1.out]
      go_wp2_with fail
      go_ret
      exact ⟨rfl, H0.out.ext hb1.size h1, Chg.of_below hb1 F⟩
    · have hn1' : namedB s = true := by simpa using hn1
      have hl16 : 16 ≤ n := by rw [hnn]; exact hn.resolve_left hn1
      have HN1 := Lib.hid hn1'
      clear hn hn1 hn1' h hpl hnn
      go_enter Try.func66, Try.ntmps66
      go_wp2_with fail
      refine (rfind_any H0.out s).mono ?_
      rintro e w1 ⟨rfl, hb1⟩
      rw [HF.out]
      have h1 := H0.out.below hb1
      have h1' := h1
      obtain ⟨fv, u, hd, hFd, hfl, _⟩ := h1'
      obtain ⟨A, c, rfl, _⟩ := hfl.form
      rw [← HNN.out] at hd
      have c0 : w1.cell? ⟨d, 0, none⟩ = some (.slice A n c) := blk_cell hd 0
      clear hd hfl
      have i1 : (16 : Int) ≤ (n : Int) := by omega
      go_wp2_with fail
      refine (rright_any s _ hs).mono ?_
      rintro e w2 ⟨rfl, rfl⟩
      rw [HN1.out]
      go_wp2_with fail
      go_ret
      exact ⟨rfl, H0.out.ext hb1.size h1, Chg.of_below hb1 F⟩
  · have ea : addM m s b = (0, { m with files := m.files ++ [⟨s, b, 0⟩] }) := by unfold addM; rw [hpl, if_neg (by omega), if_neg hn]
    rw [ea]
    clear ea hf
    have hn1 : namedB s = true := by by_cases e : namedB s = true; exact e; exact absurd (.inl (by simpa using e)) hn
    have hl16 : m.files.length < 16 := by by_cases e : m.files.length < 16; exact e; exact absurd (.inr (by omega)) hn
    have HN1 := Lib.hid hn1
    clear hn hn1 h hpl
    obtain ⟨i0, hi, hz, hsz, hby⟩ := info_parts Try.infoByte
    go_enter Try.func66, Try.ntmps66
    go_wp2_with fail
    refine (rfind_any H0.out s).mono ?_
    rintro e w0 ⟨rfl, hb1⟩
    rw [HF.out]
    have hc0 := Chg.of_below hb1 F
    have hs0 : w.heap.size ≤ w0.heap.size := hb1.size
    have h1 := H0.out.below hb1
    obtain ⟨fv, A, c', w2, f0, hrun, f1, f2, h2, hc2⟩ := h1.push s hml 72 72 Try.underlying72
    have hcn := h1
    obtain ⟨fv', u', hd', _, hfl', _⟩ := hcn
    obtain ⟨A', ca, rfl, _⟩ := hfl'.form
    obtain rfl : Value.slice A' m.files.length ca = fv := by have := blk_cell hd' 0; rw [this] at f0; simpa using f0
    clear hd' hfl' hb1
    have hc1 := hc0.trans' hc2
    have hb' := hb.chg hc1
    have HR := Lib.hid hrun
    clear hb hrun hc0 hc2
    obtain ⟨n0, hn0⟩ : ∃ n0, n0 = m.files.length := ⟨_, rfl⟩
    have i16 : (n0 : Int) < 16 := by omega
    rw [← hn0] at f0 f1
    have HN0 := Lib.hid hn0
    clear hn0
    go_wp2_with fail
    refine (rright_any s _ hs).mono ?_
    rintro e w9 ⟨rfl, rfl⟩
    rw [HN1.out]
    go_wp2_with (at_builtin; refine wpList_append_run rfl (.tmp 28) (.tmp 31) _ rfl rfl rfl (by rw [HN0.out]; exact HR.out) ?_)
    obtain ⟨m1, hm1⟩ : ∃ m1 : DM, m1 = { m with files := m.files ++ [⟨s, [], 0⟩] } := ⟨_, rfl⟩
    rw [← hm1] at h2
    have hk : n0 < m1.files.length := by rw [hm1, HN0.out]; simp
    have hm2 : ({ m1 with files := m1.files.modify n0 fun f => { f with data := f.data ++ b } } : DM) = { m with files := m.files ++ [⟨s, b, 0⟩] } := by rw [hm1, HN0.out, modify_last]
    have hl0 : m1.files[n0].data.length + b.length ≤ 140737488355328 := by
      have : m1.files[n0].data = [] := by subst hm1; simp [HN0.out]
      rw [this]; simpa using hlen
    have hlen1 : m1.files.length = m.files.length + 1 := by rw [hm1]; simp
    have HM2 := Lib.hid hm2
    rw [← hlen1] at h2 hb' hc1 ⊢
    clear hm1 hm2
    obtain ⟨w1, hw1⟩ : ∃ w1 : World, w1 = w2.setCell ⟨d, 0, none⟩ (.slice A m1.files.length c') := ⟨_, rfl⟩
    rw [← hw1] at h2 hb' hc1 ⊢
    rw [← HN0.out]
    clear hw1 f0 f1 f2 hl16 HR HN0 hlen1 i16
    have i1 : (0 : Int) ≤ (n0 : Int) := by omega
    have H1 := Lib.hid h2
    clear h2
    obtain ⟨g, o, c, A2, c2, c0, hcl, hcm, k1, _, z1, _, hdat, hsafe, hkp, hset, _⟩ := H1.out.slot n0 hk
    unfold maxLen at hcm
    obtain ⟨n, hn⟩ : ∃ n, n = m1.files.length := ⟨_, rfl⟩
    have hk' := hk
    rw [← hn] at c0 hcl hk'
    have i2 : (n0 : Int) < (n : Int) := by omega
    have HKP : Hid (∀ W' : World, w1.drew.grownBy W' (Value.slice A2 m1.files[n0].data.length c2).ownBlock → W'.cell? ⟨d, 0, none⟩ = some (.slice (some ⟨g, o, none⟩) n c) ∧ W'.cell? ⟨g, o + n0 * 3 + 1, none⟩ = some (.slice A2 m1.files[n0].data.length c2) ∧ W'.frozen? ⟨g, o + n0 * 3 + 1, none⟩ = false) :=
      Lib.hid fun W' hg => by have := hkp W' ⟨hg.os, hg.tape, hg.output, hg.size, hg.block⟩; rw [← hn] at this; exact this
    have HFIN : Hid (∀ (w2 : World) (v2 : Value), Dat w2 v2 (m1.files[n0].data ++ b) → w1.drew.grownBy w2 (Value.slice A2 m1.files[n0].data.length c2).ownBlock → (v2.ownBlock = (Value.slice A2 m1.files[n0].data.length c2).ownBlock ∨ v2.ownBlock = some w1.drew.heap.size) →
        RefAt (w2.setCell ⟨g, o + n0 * 3 + 1, none⟩ v2) (Ext F w (w2.setCell ⟨g, o + n0 * 3 + 1, none⟩ v2)) d { m1 with files := m1.files.modify n0 fun f => { f with data := f.data ++ b } } ∧ Chg w (w2.setCell ⟨g, o + n0 * 3 + 1, none⟩ v2) F) := Lib.hid fun w2 v2 hd2 hg2 hat2 => by
      have := hset w2 v2 (m1.files[n0].data ++ b) hd2 (by rw [List.length_append]; omega) ⟨hg2.os, hg2.tape, hg2.output, hg2.size, hg2.block⟩ hat2
      rw [modify_data m1.files n0 hk b] at this
      exact ⟨this.1.mono (fun j hj => hj.elim (fun hj => hj.imp id fun hj => ⟨by omega, Nat.lt_of_lt_of_le hj.2 this.2.size⟩) fun hj => .inr ⟨Nat.le_trans hc1.size hj.1, hj.2⟩) (fun j hj => hj.elim (fun hF => this.1.lt j (.inl (.inl hF))) And.right),
        hc1.trans (this.2.mono fun j hj hF => hF.imp id fun hF => ⟨by omega, hF.2⟩)⟩
    clear hn hset hkp hc1
    go_wp2_with fail
    go_region_law (refine wp_append_dat (v := Value.slice A2 m1.files[n0].data.length c2) (.tmp 53) (.tmp 54) _ rfl i0 Try.underlying40 hi hz hsz hby rfl hdat rfl hb' hl0 ?_; intro v2 w2 hd2 hg2 hat2; obtain ⟨q0, q1, q2⟩ := HKP.out _ hg2; obtain ⟨A3, c3, hv2⟩ := hd2.form; subst hv2)
    all_goals
      have hfin := HFIN.out _ _ hd2 hg2 hat2
      rw [List.length_append] at hfin
      have HX := Lib.hid hfin
      clear hfin hd2 hat2
      go_wp2_with fail
      go_ret
      exact ⟨rfl, by rw [← HM2.out]; exact HX.out⟩
theorem radd_any (h : RefAt w F d m) (s : ByteArray) (hs : s.size ≤ maxLen) (b : List UInt8) (bv : Value) (hb : RdF w F bv b) (hlen : ∀ f ∈ m.files, f.data.length + b.length ≤ 140737488355328) (hlb : b.length ≤ 140737488355328) (hml : m.files.length ≤ 1000) :
    Calls Try.prog 66 #[.pointer (some ⟨d, 0, none⟩), .string s, bv] w fun e w' => e = .returned (.int .i64 (addM m s b).1) ∧ RefAt w' (Ext F w w') d (addM m s b).2 ∧ Chg w w' F := by
  rcases findI_cases m.files s with ⟨k, hk, hp, hf⟩ | ⟨hp, hf⟩
  · have e : addM m s b = (0, { m with files := m.files.modify k fun f => { f with data := f.data ++ b } }) := by unfold addM; rw [hp, if_pos hk]
    rw [e]
    exact radd_hit h s b bv hb.1 k hk hf (hlen _ (List.getElem_mem hk))
  · exact radd_miss h s hs b bv hb hf hlb hml

end Go.Proofs.Ytbbpkenbeenocaa
