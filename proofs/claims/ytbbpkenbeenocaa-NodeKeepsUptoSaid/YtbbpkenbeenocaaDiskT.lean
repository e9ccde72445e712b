
/- The walks of Truncate, the program's and the document's. -/
import Derived.Test.YtbbpkenbeenocaaRDiskD
namespace Go.Proofs.Ytbbpkenbeenocaa
set_option maxRecDepth 100000
open Go Go.RowKit
set_option linter.unusedVariables false

theorem setCell_comm (w : World) (g i j : Nat) (hij : i ≠ j) (u v : Value) : (w.setCell ⟨g, i, none⟩ u).setCell ⟨g, j, none⟩ v = (w.setCell ⟨g, j, none⟩ v).setCell ⟨g, i, none⟩ u := by
  unfold World.setCell
  congr 1
  apply Array.ext_getElem?
  intro k
  simp only [Array.getElem?_modify]
  by_cases e : g = k
  · simp only [e, if_true]
    cases w.heap[k]? with
    | none => rfl
    | some o => cases o <;> simp [Array.setIfInBounds_comm _ _ hij]
  · simp only [if_neg e]

theorem modify_cut (fs : List FM) (k n : Nat) (hk : k < fs.length) : ((fs.modify k fun f => { f with safe := min fs[k].safe n }).modify k fun f => { f with data := fs[k].data.take n }) = fs.modify k fun f => { f with data := f.data.take n, safe := min f.safe n } := by
  apply List.ext_getElem?
  intro j
  rw [List.getElem?_modify, List.getElem?_modify, List.getElem?_modify]
  by_cases e : k = j
  · subst e; simp [List.getElem?_eq_getElem hk]
  · simp [e]

/-- a file's bytes cut, and how many of them are safe -/
theorem FilesAt.cut {T : TypeId} {w : World} {F : Nat → Prop} {A : Option Addr} {n c : Nat} {fs : List FM} (h : FilesAt T w F (.slice A n c) fs) (hT : T ≠ 5) (k : Nat) (hk : k < fs.length) (hF : ∀ j, F j → j < w.heap.size)
    {g o : Nat} (hA : A = some ⟨g, o, none⟩) {dv : Value} (hdv : w.cell? ⟨g, o + k * 3 + 1, none⟩ = some dv) (m : Nat) (hm : m ≤ fs[k].data.length) (v1 : Value) (hv1 : Dat w v1 (fs[k].data.take m)) (hb : v1.ownBlock = dv.ownBlock) :
    FilesAt T ((w.setCell ⟨g, o + k * 3 + 1, none⟩ v1).setCell ⟨g, o + k * 3 + 2, none⟩ (.int .i64 ((min fs[k].safe m : Nat) : Int))) F (.slice A n c) (fs.modify k fun f => { f with data := f.data.take m, safe := min f.safe m }) := by
  obtain ⟨g0, o0, dv0, e, hFg, hgl, ⟨gcs, hgc⟩, k0, k1, k2, _, hdat, hsafe, hown, hset2, _⟩ := h.at_ hT k hk
  rw [hA] at e
  injection e with e
  injection e with e1 e2
  subst e1; subst e2
  rw [k1] at hdv
  obtain rfl : dv0 = dv := by simpa using hdv
  have H1 := hset2 (min fs[k].safe m) (by omega)
  have hlen : (fs.modify k fun f => { f with safe := min fs[k].safe m }).length = fs.length := by simp
  have hget : (fs.modify k fun f => { f with safe := min fs[k].safe m })[k]'(by rw [hlen]; exact hk) = { fs[k] with safe := min fs[k].safe m } := by simp
  obtain ⟨g1, o1, dv1, e, _, _, _, _, q1, _, _, _, _, _, _, hset1⟩ := H1.at_ hT k (by rw [hlen]; exact hk)
  rw [hA] at e
  injection e with e
  injection e with e1 e2
  subst e1; subst e2
  have hne : (⟨g, o + k * 3 + 2, none⟩ : Addr) ≠ ⟨g, o + k * 3 + 1, none⟩ := by intro e; injection e with _ e _; omega
  have q1' : (w.setCell ⟨g, o + k * 3 + 2, none⟩ (.int .i64 ((min fs[k].safe m : Nat) : Int))).cell? ⟨g, o + k * 3 + 1, none⟩ = some dv0 := (World.cell?_setCell_other w _ _ _ (fun e => hne (by rw [e]))).trans k1
  rw [q1'] at q1
  obtain rfl : dv0 = dv1 := by simpa using q1
  have hv2 : Dat (w.setCell ⟨g, o + k * 3 + 2, none⟩ (.int .i64 ((min fs[k].safe m : Nat) : Int))) v1 (fs[k].data.take m) := hv1.keep fun j hj => Below.heap_setCell w _ _ j (fun e => (hown j (hb ▸ hj)).2 e)
  have H2 := hset1 _ v1 (fs[k].data.take m) hv2 (by rw [hget]; simp; omega) (World.grownBy.refl _ _) (.inl hb) (fun j hj => by simpa [World.setCell] using hF j hj)
  rw [modify_cut fs k m hk, setCell_comm w g _ _ (by omega)] at H2
  exact H2.mono fun j hj => hj.elim id fun hj => by omega


theorem DiskAt.cut {w : World} {F : Nat → Prop} {d : Nat} {m : DM} (h : DiskAt w F d m) (k : Nat) (hk : k < m.files.length) :
    ∃ g o c A2 c2, w.cell? ⟨d, 0, none⟩ = some (.slice (some ⟨g, o, none⟩) m.files.length c) ∧ m.files.length ≤ c ∧ c ≤ maxLen ∧ w.cell? ⟨g, o + k * 3 + 1, none⟩ = some (.slice A2 m.files[k].data.length c2) ∧ w.cell? ⟨g, o + k * 3 + 2, none⟩ = some (.int .i64 (m.files[k].safe : Int)) ∧
      w.frozen? ⟨g, o + k * 3 + 1, none⟩ = false ∧ w.frozen? ⟨g, o + k * 3 + 2, none⟩ = false ∧ g ≠ d ∧ m.files[k].data.length ≤ c2 ∧ c2 ≤ maxLen ∧ m.files[k].safe ≤ m.files[k].data.length ∧
      ∀ (n c' : Nat), n ≤ m.files[k].data.length → c' = c2 ∨ c' = n → DiskAt ((w.setCell ⟨g, o + k * 3 + 1, none⟩ (.slice A2 n c')).setCell ⟨g, o + k * 3 + 2, none⟩ (.int .i64 ((min m.files[k].safe n : Nat) : Int))) F d { m with files := m.files.modify k fun f => { f with data := f.data.take n, safe := min f.safe n } } ∧
        Chg w ((w.setCell ⟨g, o + k * 3 + 1, none⟩ (.slice A2 n c')).setCell ⟨g, o + k * 3 + 2, none⟩ (.int .i64 ((min m.files[k].safe n : Nat) : Int))) F := by
  obtain ⟨fv, u, hd, hFd, hfl, hlt, hl⟩ := h
  obtain ⟨A, c, rfl, hcl, hcm⟩ := hfl.form
  obtain ⟨g, o, dv, rfl, hFg, hgl, ⟨gcs, hgc⟩, k0, k1, k2, hz0, hdat, hsafe, hown, _, _⟩ := hfl.at_ (by decide) k hk
  have c0 : w.cell? ⟨d, 0, none⟩ = some (.slice (some ⟨g, o, none⟩) m.files.length c) := blk_cell hd 0
  have hgd : g ≠ d := fun e => by subst e; rw [hd] at hgc; injection hgc with hgc; injection hgc with _ hgc _; exact absurd hgc (by decide)
  obtain ⟨A2, c2, rfl⟩ := hdat.form
  have hcc : m.files[k].data.length ≤ c2 ∧ c2 ≤ maxLen := by
    rcases hdat with ⟨e, h0⟩ | ⟨g, cap, cur, e, _, h1, h2, _⟩
    · injection e with _ e2 e3; rw [h0, e3]; simp
    · injection e with _ _ e; subst e; exact ⟨h1, h2⟩
  refine ⟨g, o, c, A2, c2, c0, hcl, hcm, k1, k2, hz0 _, hz0 _, hgd, hcc.1, hcc.2, hsafe, fun n c' hn hc => ?_⟩
  have hcut := hfl.cut (by decide) k hk hlt rfl k1 n hn (.slice A2 n c') (hdat.take hn hc) (by cases A2 <;> rfl)
  refine ⟨⟨_, u, ?_, hFd, hcut, fun j hj => by simpa [World.setCell] using hlt j hj, hl⟩, (Chg.set w (p := ⟨g, o + k * 3 + 1, none⟩) hFg _).trans' (Chg.set _ (p := ⟨g, o + k * 3 + 2, none⟩) hFg _)⟩
  rw [Below.heap_setCell _ _ _ d (fun e => hgd e.symm), Below.heap_setCell w _ _ d (fun e => hgd e.symm)]
  simpa using hd

theorem RefAt.cut {w : World} {F : Nat → Prop} {d : Nat} {m : DM} (h : RefAt w F d m) (k : Nat) (hk : k < m.files.length) :
    ∃ g o c A2 c2, w.cell? ⟨d, 0, none⟩ = some (.slice (some ⟨g, o, none⟩) m.files.length c) ∧ m.files.length ≤ c ∧ c ≤ maxLen ∧ w.cell? ⟨g, o + k * 3 + 1, none⟩ = some (.slice A2 m.files[k].data.length c2) ∧ w.cell? ⟨g, o + k * 3 + 2, none⟩ = some (.int .i64 (m.files[k].safe : Int)) ∧
      w.frozen? ⟨g, o + k * 3 + 1, none⟩ = false ∧ w.frozen? ⟨g, o + k * 3 + 2, none⟩ = false ∧ g ≠ d ∧ m.files[k].data.length ≤ c2 ∧ c2 ≤ maxLen ∧ m.files[k].safe ≤ m.files[k].data.length ∧
      ∀ (n c' : Nat), n ≤ m.files[k].data.length → c' = c2 ∨ c' = n → RefAt ((w.setCell ⟨g, o + k * 3 + 1, none⟩ (.slice A2 n c')).setCell ⟨g, o + k * 3 + 2, none⟩ (.int .i64 ((min m.files[k].safe n : Nat) : Int))) F d { m with files := m.files.modify k fun f => { f with data := f.data.take n, safe := min f.safe n } } ∧
        Chg w ((w.setCell ⟨g, o + k * 3 + 1, none⟩ (.slice A2 n c')).setCell ⟨g, o + k * 3 + 2, none⟩ (.int .i64 ((min m.files[k].safe n : Nat) : Int))) F := by
  obtain ⟨fv, u, hd, hFd, hfl, hlt, hl⟩ := h
  obtain ⟨A, c, rfl, hcl, hcm⟩ := hfl.form
  obtain ⟨g, o, dv, rfl, hFg, hgl, ⟨gcs, hgc⟩, k0, k1, k2, hz0, hdat, hsafe, hown, _, _⟩ := hfl.at_ (by decide) k hk
  have c0 : w.cell? ⟨d, 0, none⟩ = some (.slice (some ⟨g, o, none⟩) m.files.length c) := blk_cell hd 0
  have hgd : g ≠ d := fun e => by subst e; rw [hd] at hgc; injection hgc with hgc; injection hgc with _ hgc _; exact absurd hgc (by decide)
  obtain ⟨A2, c2, rfl⟩ := hdat.form
  have hcc : m.files[k].data.length ≤ c2 ∧ c2 ≤ maxLen := by
    rcases hdat with ⟨e, h0⟩ | ⟨g, cap, cur, e, _, h1, h2, _⟩
    · injection e with _ e2 e3; rw [h0, e3]; simp
    · injection e with _ _ e; subst e; exact ⟨h1, h2⟩
  refine ⟨g, o, c, A2, c2, c0, hcl, hcm, k1, k2, hz0 _, hz0 _, hgd, hcc.1, hcc.2, hsafe, fun n c' hn hc => ?_⟩
  have hcut := hfl.cut (by decide) k hk hlt rfl k1 n hn (.slice A2 n c') (hdat.take hn hc) (by cases A2 <;> rfl)
  refine ⟨⟨_, u, ?_, hFd, hcut, fun j hj => by simpa [World.setCell] using hlt j hj, hl⟩, (Chg.set w (p := ⟨g, o + k * 3 + 1, none⟩) hFg _).trans' (Chg.set _ (p := ⟨g, o + k * 3 + 2, none⟩) hFg _)⟩
  rw [Below.heap_setCell _ _ _ d (fun e => hgd e.symm), Below.heap_setCell w _ _ d (fun e => hgd e.symm)]
  simpa using hd

theorem run_slice_full {P : Program} (t e : TypeId) (i : TypeInfo) (ht : P.underlying t = some (.slice e)) (hi : P.info? e = some i) (A : Option Addr) (L c n : Nat) (hn : n ≤ c) (W : World) :
    (Instr.slice t (.slice A L c) none (some (.int .i64 (n : Int))) (some (.int .i64 (n : Int)))).run P W = .ok (.slice A n n) W := by
  have h1 : (n : Int) ≤ (c : Int) := by omega
  simp [Instr.slice, run_underlying ht, Instr.sliceBounds, Instr.sliceBound, asIntOf, sizeOf, typeInfo, hi, h1]
  rw [if_pos hn]
  simp
  cases A <;> simp [addr_add_zero]

variable {w : World} {F : Nat → Prop} {d : Nat} {m : DM}
def cutM (s : ByteArray) (n : Int) (m : DM) : Int × DM :=
  match m.files[placeF m.files s]? with
  | none => (50, m)
  | some f => if n < 0 ∨ (f.data.length : Int) < n then (2, m) else (0, { m with files := m.files.modify (placeF m.files s) fun f => { f with data := f.data.take n.toNat, safe := min f.safe n.toNat } })
theorem truncM_eq (m : DM) (s : ByteArray) (n : Int) : truncM m s n = opM m (cutM s n) := rfl
theorem cutM_none {m : DM} {s : ByteArray} {n : Int} (hp : placeF m.files s = m.files.length) : cutM s n m = (50, m) := by unfold cutM; rw [modify_none hp]
theorem cutM_bad {m : DM} {s : ByteArray} {n : Int} {k : Nat} (hk : k < m.files.length) (hp : placeF m.files s = k) (h : n < 0 ∨ (m.files[k].data.length : Int) < n) : cutM s n m = (2, m) := by
  unfold cutM; rw [hp, List.getElem?_eq_getElem hk]; simp only [if_pos h]
theorem cutM_ok {m : DM} {s : ByteArray} {q k : Nat} (hk : k < m.files.length) (hp : placeF m.files s = k) (h : q ≤ m.files[k].data.length) : cutM s (q : Int) m = (0, { m with files := m.files.modify k fun f => { f with data := f.data.take q, safe := min f.safe q } }) := by
  unfold cutM; rw [hp, List.getElem?_eq_getElem hk]; simp only [if_neg (show ¬ ((q : Int) < 0 ∨ (m.files[k].data.length : Int) < (q : Int)) by omega)]; simp

set_option maxHeartbeats 2000000 in
theorem trunc_any (h : DiskAt w F d m) (s : ByteArray) (n : Int) (hn : -9223372036854775808 ≤ n ∧ n ≤ 9223372036854775807) (hlen : ∀ f ∈ m.files, f.data.length ≤ 1000000000) :
    Calls Try.prog 55 #[.pointer (some ⟨d, 0, none⟩), .string s, .int .i64 n] w fun e w' => e = .returned (.int .i64 (truncM m s n).1) ∧ DiskAt w' F d (truncM m s n).2 ∧ Chg w w' F := by
  have c1 := h.offc
  have H0 := Lib.hid h
  clear h
  rw [truncM_eq]
  clear c1
  by_cases hB : m.off = true ∨ (goesM m).1 = true
  · rw [opM_off m _ hB]
    have HB := Lib.hid hB
    clear hB
    go_enter Try.func55, Try.ntmps55
    go_wp2_with fail
    refine (begin_yes H0.out HB.out).mono ?_
    rintro e w1 ⟨rfl, h1, hc1⟩
    have HX := Lib.hid (And.intro h1 hc1)
    clear h1 hc1
    go_wp2_with fail
    go_ret
    exact ⟨rfl, HX.out⟩
  · rw [opM_begin m _ hB]
    have HB := Lib.hid hB
    have hlen1 : ∀ f ∈ (goesM m).2.files, f.data.length ≤ 1000000000 := by rw [goes_files]; exact hlen
    obtain ⟨m1, hm1⟩ : ∃ m1, m1 = (goesM m).2 := ⟨_, rfl⟩
    have BN : Hid (Calls Try.prog 69 #[.pointer (some ⟨d, 0, none⟩)] w fun e w' => e = .returned (.int .i64 0) ∧ DiskAt w' F d m1 ∧ Chg w w' F) := Lib.hid (by rw [hm1]; exact begin_no H0.out hB)
    rw [← hm1] at hlen1 ⊢
    clear hB hm1
    rcases findI_cases m1.files s with ⟨k, hk, hp, hf⟩ | ⟨hp, hf⟩
    · have hdl := hlen1 _ (List.getElem_mem hk)
      have HF := Lib.hid hf
      by_cases hbad : n < 0 ∨ (m1.files[k].data.length : Int) < n
      · rw [cutM_bad hk hp hbad]
        clear hp hf
        go_enter Try.func55, Try.ntmps55
        go_wp2_with fail
        refine BN.out.mono ?_
        rintro e w1 ⟨rfl, h1, hc1⟩
        have H1 := Lib.hid h1
        clear h1
        go_wp2_with fail
        refine (find_any H1.out s).mono ?_
        rintro e w2 ⟨rfl, hb2⟩
        rw [HF.out]
        have h2 := H1.out.below hb2
        have hfin := And.intro h2 (hc1.trans' (Chg.of_below hb2 F))
        have HX := Lib.hid hfin
        obtain ⟨g, o, c, A2, c2, c0, hcl, hcm, k1, k2, z1, z2, hgd, hc2, hc2m, hsafe, _⟩ := h2.cut k hk
        unfold maxLen at hcm
        obtain ⟨nn, hnn⟩ : ∃ nn, nn = m1.files.length := ⟨_, rfl⟩
        have hk' := hk
        rw [← hnn] at c0 hcl hk'
        obtain ⟨L, hL⟩ : ∃ L, L = m1.files[k].data.length := ⟨_, rfl⟩
        rw [← hL] at k1 hbad hdl
        have i1 : (0 : Int) ≤ (k : Int) := by omega
        have i2 : (k : Int) < (nn : Int) := by omega
        clear hfin h2 hnn hb2 hc1 hL
        by_cases hneg : n < 0
        · clear hbad
          go_wp2_with fail
          go_ret
          exact ⟨rfl, HX.out⟩
        · have hbig : (L : Int) < n := hbad.resolve_left hneg
          have hneg' : 0 ≤ n := by omega
          clear hbad hneg
          go_wp2_with fail
          go_ret
          exact ⟨rfl, HX.out⟩
      · obtain ⟨q, rfl⟩ := Int.eq_ofNat_of_zero_le (show 0 ≤ n by omega)
        have hq : q ≤ m1.files[k].data.length := by omega
        rw [show cutM s ((q : Nat) : Int) m1 = _ from cutM_ok hk hp hq]
        clear hp hf hbad
        go_enter Try.func55, Try.ntmps55
        go_wp2_with fail
        refine BN.out.mono ?_
        rintro e w1 ⟨rfl, h1, hc1⟩
        have H1 := Lib.hid h1
        clear h1
        go_wp2_with fail
        refine (find_any H1.out s).mono ?_
        rintro e w2 ⟨rfl, hb2⟩
        rw [HF.out]
        have h2 := H1.out.below hb2
        have hc2' := hc1.trans' (Chg.of_below hb2 F)
        obtain ⟨g, o, c, A2, c2, c0, hcl, hcm, k1, k2, z1, z2, hgd, hc2, hc2m, hsafe, hcut⟩ := h2.cut k hk
        unfold maxLen at hcm hc2m
        have hfin := hcut q q hq (.inr rfl)
        have hfin2 := And.intro hfin.1 (hc2'.trans' hfin.2)
        have HX := Lib.hid hfin2
        obtain ⟨nn, hnn⟩ : ∃ nn, nn = m1.files.length := ⟨_, rfl⟩
        have hk' := hk
        rw [← hnn] at c0 hcl hk'
        obtain ⟨ib, hib, hibz, hibs, hibb⟩ := info_parts Try.infoByte
        have hsl : ∀ W : World, (Instr.slice 40 (.slice A2 m1.files[k].data.length c2) none (some (.int .i64 (q : Int))) (some (.int .i64 (q : Int)))).run Try.prog W = .ok (.slice A2 q q) W := run_slice_full _ _ ib Try.underlying40 hib A2 m1.files[k].data.length c2 q (by omega)
        have HSL := Lib.hid hsl
        obtain ⟨L, hL⟩ : ∃ L, L = m1.files[k].data.length := ⟨_, rfl⟩
        obtain ⟨sf, hsf⟩ : ∃ sf, sf = m1.files[k].safe := ⟨_, rfl⟩
        rw [← hL] at k1 hsl hq hdl
        rw [← hsf] at k2 HX
        have i1 : (0 : Int) ≤ (k : Int) := by omega
        have i2 : (k : Int) < (nn : Int) := by omega
        have i3 : (q : Int) ≤ (L : Int) := by omega
        have e0 : ∀ u, (w2.setCell ⟨g, o + k * 3 + 1, none⟩ u).cell? ⟨g, o + k * 3 + 2, none⟩ = some (.int .i64 (sf : Int)) := fun u => (World.cell?_setCell_other w2 _ _ _ (by intro e; injection e with _ e _; omega)).trans k2
        have e2 : ∀ u, (w2.setCell ⟨g, o + k * 3 + 1, none⟩ u).cell? ⟨d, 0, none⟩ = some (.slice (some ⟨g, o, none⟩) nn c) := fun u => (World.cell?_setCell_other w2 _ _ _ (by intro e; injection e with e; exact hgd e)).trans c0
        have e3 : ∀ u, (w2.setCell ⟨g, o + k * 3 + 1, none⟩ u).frozen? ⟨g, o + k * 3 + 2, none⟩ = false := fun u => (World.frozen?_setCell w2 _ _ u).trans z2
        by_cases hmin : sf ≤ q
        · have hm : min sf q = sf := Nat.min_eq_left hmin
          rw [hm] at HX
          have j1 : (sf : Int) ≤ (q : Int) := by omega
          have j2 : ¬ ((q : Int) < (sf : Int)) := by omega
          have j3 : ¬ (q < sf) := by omega
          have j4 : decide ((q : Int) < (sf : Int)) = false := decide_eq_false j2
          have j5 : decide (q < sf) = false := decide_eq_false j3
          clear hfin hfin2 hcut h2 hnn hb2 hc1 hc2' hL hsf hm
          go_wp2_with fail
          go_ret
          exact ⟨rfl, HX.out⟩
        · have hm : min sf q = q := Nat.min_eq_right (by omega)
          rw [hm] at HX
          have j1 : (q : Int) < (sf : Int) := by omega
          have j3 : q < sf := by omega
          have j4 : decide ((q : Int) < (sf : Int)) = true := decide_eq_true j1
          have j5 : decide (q < sf) = true := decide_eq_true j3
          clear hfin hfin2 hcut h2 hnn hb2 hc1 hc2' hL hsf hm
          go_wp2_with fail
          go_ret
          exact ⟨rfl, HX.out⟩
    · rw [cutM_none hp]
      have HF := Lib.hid hf
      clear hp hf
      go_enter Try.func55, Try.ntmps55
      go_wp2_with fail
      refine BN.out.mono ?_
      rintro e w1 ⟨rfl, h1, hc1⟩
      have H1 := Lib.hid h1
      clear h1
      go_wp2_with fail
      refine (find_any H1.out s).mono ?_
      rintro e w2 ⟨rfl, hb2⟩
      rw [HF.out]
      have hfin := And.intro (H1.out.below hb2) (hc1.trans' (Chg.of_below hb2 F))
      have HX := Lib.hid hfin
      clear hfin hb2 hc1
      go_wp2_with fail
      go_ret
      exact ⟨rfl, HX.out⟩

set_option maxHeartbeats 2000000 in
theorem rtrunc_any (h : RefAt w F d m) (s : ByteArray) (n : Int) (hn : -9223372036854775808 ≤ n ∧ n ≤ 9223372036854775807) (hlen : ∀ f ∈ m.files, f.data.length ≤ 1000000000) :
    Calls Try.prog 62 #[.pointer (some ⟨d, 0, none⟩), .string s, .int .i64 n] w fun e w' => e = .returned (.int .i64 (truncM m s n).1) ∧ RefAt w' F d (truncM m s n).2 ∧ Chg w w' F := by
  have c1 := h.offc
  have H0 := Lib.hid h
  clear h
  rw [truncM_eq]
  by_cases ho : m.off = true
  · have e : opM m (cutM s n) = (51, m) := by simp [opM, ho]
    rw [e]
    rw [ho] at c1
    clear e ho
    go_enter Try.func62, Try.ntmps62
    go_wp2
    go_ret
    exact ⟨rfl, H0.out, Chg.refl _ _⟩
  have ho' : m.off = false := by simpa using ho
  rw [ho'] at c1
  have HO := Lib.hid ho'
  by_cases hg : (goesM m).1 = true
  · have e : opM m (cutM s n) = (51, (goesM m).2) := by simp [opM, ho', hg]
    rw [e]
    have HG := Lib.hid hg
    clear e ho ho' hg
    go_enter Try.func62, Try.ntmps62
    go_wp2_with fail
    refine (rgoes_any H0.out HO.out).mono ?_
    rintro e w1 ⟨rfl, h1, hc1⟩
    rw [HG.out]
    have HX := Lib.hid (And.intro h1 hc1)
    clear h1 hc1 c1
    go_wp2_with fail
    go_ret
    exact ⟨rfl, HX.out⟩
  · have hg' : (goesM m).1 = false := by simpa using hg
    rw [opM_begin m _ (fun e => e.elim ho hg)]
    have HG := Lib.hid hg'
    have hlen1 : ∀ f ∈ (goesM m).2.files, f.data.length ≤ 1000000000 := by rw [goes_files]; exact hlen
    obtain ⟨m1, hm1⟩ : ∃ m1, m1 = (goesM m).2 := ⟨_, rfl⟩
    have BN : Hid (Calls Try.prog 65 #[.pointer (some ⟨d, 0, none⟩)] w fun e w' => e = .returned (.bool false) ∧ RefAt w' F d m1 ∧ Chg w w' F) := Lib.hid (by rw [hm1]; have := rgoes_any H0.out HO.out; rw [HG.out] at this; exact this)
    rw [← hm1] at hlen1 ⊢
    clear ho ho' hg hg' hm1
    rcases findI_cases m1.files s with ⟨k, hk, hp, hf⟩ | ⟨hp, hf⟩
    · have hdl := hlen1 _ (List.getElem_mem hk)
      have HF := Lib.hid hf
      by_cases hbad : n < 0 ∨ (m1.files[k].data.length : Int) < n
      · rw [cutM_bad hk hp hbad]
        clear hp hf
        go_enter Try.func62, Try.ntmps62
        go_wp2_with fail
        refine BN.out.mono ?_
        rintro e w1 ⟨rfl, h1, hc1⟩
        have H1 := Lib.hid h1
        clear h1
        go_wp2_with fail
        refine (rfind_any H1.out s).mono ?_
        rintro e w2 ⟨rfl, hb2⟩
        rw [HF.out]
        have h2 := H1.out.below hb2
        have hfin := And.intro h2 (hc1.trans' (Chg.of_below hb2 F))
        have HX := Lib.hid hfin
        obtain ⟨g, o, c, A2, c2, c0, hcl, hcm, k1, k2, z1, z2, hgd, hc2, hc2m, hsafe, _⟩ := h2.cut k hk
        unfold maxLen at hcm
        obtain ⟨nn, hnn⟩ : ∃ nn, nn = m1.files.length := ⟨_, rfl⟩
        have hk' := hk
        rw [← hnn] at c0 hcl hk'
        obtain ⟨L, hL⟩ : ∃ L, L = m1.files[k].data.length := ⟨_, rfl⟩
        rw [← hL] at k1 hbad hdl
        have i1 : (0 : Int) ≤ (k : Int) := by omega
        have i2 : (k : Int) < (nn : Int) := by omega
        clear hfin h2 hnn hb2 hc1 hL
        by_cases hneg : n < 0
        · clear hbad
          go_wp2_with fail
          go_ret
          exact ⟨rfl, HX.out⟩
        · have hbig : (L : Int) < n := hbad.resolve_left hneg
          have hneg' : 0 ≤ n := by omega
          clear hbad hneg
          go_wp2_with fail
          go_ret
          exact ⟨rfl, HX.out⟩
      · obtain ⟨q, rfl⟩ := Int.eq_ofNat_of_zero_le (show 0 ≤ n by omega)
        have hq : q ≤ m1.files[k].data.length := by omega
        rw [show cutM s ((q : Nat) : Int) m1 = _ from cutM_ok hk hp hq]
        clear hp hf hbad
        go_enter Try.func62, Try.ntmps62
        go_wp2_with fail
        refine BN.out.mono ?_
        rintro e w1 ⟨rfl, h1, hc1⟩
        have H1 := Lib.hid h1
        clear h1
        go_wp2_with fail
        refine (rfind_any H1.out s).mono ?_
        rintro e w2 ⟨rfl, hb2⟩
        rw [HF.out]
        have h2 := H1.out.below hb2
        have hc2' := hc1.trans' (Chg.of_below hb2 F)
        obtain ⟨g, o, c, A2, c2, c0, hcl, hcm, k1, k2, z1, z2, hgd, hc2, hc2m, hsafe, hcut⟩ := h2.cut k hk
        unfold maxLen at hcm hc2m
        have hfin := hcut q c2 hq (.inl rfl)
        have hfin2 := And.intro hfin.1 (hc2'.trans' hfin.2)
        have HX := Lib.hid hfin2
        obtain ⟨nn, hnn⟩ : ∃ nn, nn = m1.files.length := ⟨_, rfl⟩
        have hk' := hk
        rw [← hnn] at c0 hcl hk'
        obtain ⟨ib, hib, hibz, hibs, hibb⟩ := info_parts Try.infoByte
        have hsl : ∀ W : World, (Instr.slice 40 (.slice A2 m1.files[k].data.length c2) none (some (.int .i64 (q : Int))) none).run Try.prog W = .ok (.slice A2 q c2) W := run_slice_to _ _ ib Try.underlying40 hib A2 m1.files[k].data.length c2 q (by omega)
        have HSL := Lib.hid hsl
        obtain ⟨L, hL⟩ : ∃ L, L = m1.files[k].data.length := ⟨_, rfl⟩
        obtain ⟨sf, hsf⟩ : ∃ sf, sf = m1.files[k].safe := ⟨_, rfl⟩
        rw [← hL] at k1 hsl hq hdl
        rw [← hsf] at k2 HX
        have i1 : (0 : Int) ≤ (k : Int) := by omega
        have i2 : (k : Int) < (nn : Int) := by omega
        have i3 : (q : Int) ≤ (L : Int) := by omega
        have e0 : ∀ u, (w2.setCell ⟨g, o + k * 3 + 1, none⟩ u).cell? ⟨g, o + k * 3 + 2, none⟩ = some (.int .i64 (sf : Int)) := fun u => (World.cell?_setCell_other w2 _ _ _ (by intro e; injection e with _ e _; omega)).trans k2
        have e2 : ∀ u, (w2.setCell ⟨g, o + k * 3 + 1, none⟩ u).cell? ⟨d, 0, none⟩ = some (.slice (some ⟨g, o, none⟩) nn c) := fun u => (World.cell?_setCell_other w2 _ _ _ (by intro e; injection e with e; exact hgd e)).trans c0
        have e3 : ∀ u, (w2.setCell ⟨g, o + k * 3 + 1, none⟩ u).frozen? ⟨g, o + k * 3 + 2, none⟩ = false := fun u => (World.frozen?_setCell w2 _ _ u).trans z2
        by_cases hmin : sf ≤ q
        · have hm : min sf q = sf := Nat.min_eq_left hmin
          rw [hm] at HX
          have j1 : (sf : Int) ≤ (q : Int) := by omega
          have j2 : ¬ ((q : Int) < (sf : Int)) := by omega
          have j3 : ¬ (q < sf) := by omega
          have j4 : decide ((q : Int) < (sf : Int)) = false := decide_eq_false j2
          have j5 : decide (q < sf) = false := decide_eq_false j3
          clear hfin hfin2 hcut h2 hnn hb2 hc1 hc2' hL hsf hm
          have qz := e3 (.slice A2 q c2)
          have qa := e0 (.slice A2 q c2)
          have qb := e2 (.slice A2 q c2)
          clear e0 e2 e3
          go_wp2_with fail
          go_still_tail 17, (by kernel_rfl)
          change wpList _ _ _ _ _ w2.drew
          go_wp2_with fail
          obtain ⟨v, hv⟩ : ∃ v, v = (w2.setCell ⟨g, o + k * 3 + 1, none⟩ (.slice A2 q c2)).drew := ⟨_, rfl⟩
          have qz' : v.frozen? ⟨g, o + k * 3 + 2, none⟩ = false := by rw [hv]; exact qz
          have qa' : v.cell? ⟨g, o + k * 3 + 2, none⟩ = some (.int .i64 (sf : Int)) := by rw [hv]; exact qa
          have qb' : v.cell? ⟨d, 0, none⟩ = some (.slice (some ⟨g, o, none⟩) nn c) := by rw [hv]; exact qb
          rw [← hv]
          have HV := Lib.hid hv
          clear hv qa qb qz k1 k2 z1 z2 c0
          go_still_tail 17, (by kernel_rfl)
          change wpList _ _ _ _ _ v.drew
          go_wp2_with fail
          go_ret
          have hv := HV.out
          subst hv
          exact ⟨rfl, HX.out.1, ⟨HX.out.2.os, HX.out.2.tape, HX.out.2.output, HX.out.2.size, HX.out.2.block⟩⟩
        · have hm : min sf q = q := Nat.min_eq_right (by omega)
          rw [hm] at HX
          have j1 : (q : Int) < (sf : Int) := by omega
          have j3 : q < sf := by omega
          have j4 : decide ((q : Int) < (sf : Int)) = true := decide_eq_true j1
          have j5 : decide (q < sf) = true := decide_eq_true j3
          clear hfin hfin2 hcut h2 hnn hb2 hc1 hc2' hL hsf hm
          have qz := e3 (.slice A2 q c2)
          have qa := e0 (.slice A2 q c2)
          have qb := e2 (.slice A2 q c2)
          clear e0 e2 e3
          go_wp2_with fail
          go_still_tail 17, (by kernel_rfl)
          change wpList _ _ _ _ _ w2.drew
          go_wp2_with fail
          obtain ⟨v, hv⟩ : ∃ v, v = (w2.setCell ⟨g, o + k * 3 + 1, none⟩ (.slice A2 q c2)).drew := ⟨_, rfl⟩
          have qz' : v.frozen? ⟨g, o + k * 3 + 2, none⟩ = false := by rw [hv]; exact qz
          have qa' : v.cell? ⟨g, o + k * 3 + 2, none⟩ = some (.int .i64 (sf : Int)) := by rw [hv]; exact qa
          have qb' : v.cell? ⟨d, 0, none⟩ = some (.slice (some ⟨g, o, none⟩) nn c) := by rw [hv]; exact qb
          rw [← hv]
          have HV := Lib.hid hv
          clear hv qa qb qz k1 k2 z1 z2 c0
          go_still_tail 17, (by kernel_rfl)
          change wpList _ _ _ _ _ v.drew
          go_wp2_with fail
          go_ret
          have hv := HV.out
          subst hv
          exact ⟨rfl, HX.out.1, ⟨HX.out.2.os, HX.out.2.tape, HX.out.2.output, HX.out.2.size, HX.out.2.block⟩⟩
    · rw [cutM_none hp]
      have HF := Lib.hid hf
      clear hp hf
      go_enter Try.func62, Try.ntmps62
      go_wp2_with fail
      refine BN.out.mono ?_
      rintro e w1 ⟨rfl, h1, hc1⟩
      have H1 := Lib.hid h1
      clear h1
      go_wp2_with fail
      refine (rfind_any H1.out s).mono ?_
      rintro e w2 ⟨rfl, hb2⟩
      rw [HF.out]
      have hfin := And.intro (H1.out.below hb2) (hc1.trans' (Chg.of_below hb2 F))
      have HX := Lib.hid hfin
      clear hfin hb2 hc1
      go_wp2_with fail
      go_ret
      exact ⟨rfl, HX.out⟩
end Go.Proofs.Ytbbpkenbeenocaa
