
/- The walk of a disk's Crash. -/
import Derived.Test.YtbbpkenbeenocaaDiskE
namespace Go.Proofs.Ytbbpkenbeenocaa
set_option maxRecDepth 100000
open Go Go.RowKit
set_option linter.unusedVariables false

variable {w : World} {F : Nat → Prop} {d : Nat} {m : DM}

theorem Try.infoBool : (Try.prog.info? 4).map (fun i => (i.zero, i.size, i.bytes)) = some (some (.bool false), 1, 1) := by kernel_rfl

theorem crash_none (keep : List Bool) (kv : Value) (w : World) : Calls Try.prog 20 #[.pointer none, kv] w fun e w' => e = .returned (.slice none 0 0) ∧ w = w' := by
  go_enter Try.func20, Try.ntmps20
  go_wp2
  go_ret
  exact ⟨rfl, rfl⟩

section
variable {P : Program} {v' : Value} {w' : World}
theorem wp_append_run {v s : Value} {o : Oper} {a : Act} {K : Act → World → Prop} {Q : Exit → Act → World → Prop} (sv sx : Operand) (t : TypeId)
    (ho : o.op = .call { callee := .builtin .append, args := #[sv, sx], argTypes := #[t, t] }) (hs : a.eval sv = v) (hx : a.eval sx = s) (hrun : (Builtin.append_ #[t, t] o.type #[v, s]).run P w = .ok v' w')
    (h : K (a.put o.dst v') w') : o.wp P a w K Q := by
  unfold Oper.wp execOp
  simp only [ho, resolve, invoke, builtin, Sem.run_bind, Sem.run_pure, Result.andThen_ok, List.map_toArray, List.map_cons, List.map_nil, hs, hx, hrun]
  exact h
end

theorem keepAt_zero (fs : List FM) (keep : List Bool) : keepAt fs keep 0 = keep := by simp [keepAt, waitM]

set_option maxHeartbeats 1000000 in
theorem crash_any (h : DiskAt w F d m) (kv : Value) (keep : List Bool) (hk : RdL w w.heap.size kv keep) (hlen : totM m.files ≤ 1000000000) (hml : m.files.length ≤ 1000) :
    Calls Try.prog 20 #[.pointer (some ⟨d, 0, none⟩), kv] w fun e w' => ∃ v, e = .returned v ∧ OutAt w' w.heap.size v (crashM m.files keep) ∧ Below w.heap.size w w' := by
  obtain ⟨i0, hi, hz, hsz, hby⟩ := info_parts Try.infoOut
  obtain ⟨ib, hib, hibz, hib1, _⟩ := info_parts Try.infoBool
  obtain ⟨fv, u, hd, hF, hf, hlt, hl⟩ := h
  have c0 : w.cell? ⟨d, 0, none⟩ = some fv := blk_cell hd 0
  obtain ⟨A, c, rfl, hc, hcm⟩ := hf.form
  unfold maxLen at hcm
  obtain ⟨n, hn⟩ : ∃ n, n = m.files.length := ⟨_, rfl⟩
  have HN := Lib.hid hn
  rw [← hn] at hc c0
  have HFF := Lib.hid hf
  have HLEN := Lib.hid hlen
  clear hn hd hf hlen
  go_enter Try.func20, Try.ntmps20
  go_wp2
  go_loopw [1, 5, 17] (fun kv lv i wr => ∃ k : Nat, k ≤ n ∧ i = .int .i64 (k : Int) ∧ RdL wr w.heap.size kv (keepAt m.files keep k) ∧ OutAt wr w.heap.size lv ((crashM m.files keep).take k) ∧ Below w.heap.size w wr)
    (fun _ _ i _ => n - (intOf i).toNat)
  case atStart => exact ⟨0, Nat.zero_le _, rfl, by rw [keepAt_zero]; exact hk, OutAt.nil _ _, Below.refl _ _⟩
  case round =>
    obtain ⟨k, hk', rfl, hkv, hlv, hb⟩ := hrel
    by_cases hlt' : k < n
    · have hkl : k < m.files.length := by have := HN.out; omega
      obtain ⟨g, o, dv, rfl, hFg, hgl, _, k0, k1, k2, _, hdat, hsafe, hown, _⟩ := (HFF.out).at_ (by decide) k hkl
      obtain ⟨A, cc, rfl⟩ := hdat.form
      have c0' := (hb.cell (p := ⟨g, o + k * 3, none⟩) hgl).trans k0
      have c1' := (hb.cell (p := ⟨g, o + k * 3 + 1, none⟩) hgl).trans k1
      have c2' := (hb.cell (p := ⟨g, o + k * 3 + 2, none⟩) hgl).trans k2
      have hdl : m.files[k].data.length ≤ 1000000000 := Nat.le_trans (totM_mem (List.getElem_mem hkl)) HLEN.out
      have hks := keepAt_succ m.files keep k hkl
      have hct := crashM_take m.files keep k hkl
      have i1 : (0 : Int) ≤ (k : Int) := by omega
      have i2 : (k : Int) < (n : Int) := by omega
      have hdat' := hdat.below hb
      generalize hK : keepAt m.files keep k = K at *
      generalize hfe : m.files[k] = f at *
      obtain ⟨AK, ck, rfl, hkc, hkm⟩ := hkv.form
      unfold maxLen at hkm
      obtain ⟨kl, hkl⟩ : ∃ kl, kl = K.length := ⟨_, rfl⟩
      obtain ⟨L, hL⟩ : ∃ L, L = f.data.length := ⟨_, rfl⟩
      obtain ⟨q, hq⟩ : ∃ q, q = min (L - f.safe) kl := ⟨_, rfl⟩
      obtain ⟨r, hr⟩ : ∃ r, r = kl - q := ⟨_, rfl⟩
      obtain ⟨A', hA'⟩ : ∃ A', A' = (if ck = q then AK else AK.map (·.add (q * ib.size))) := ⟨_, rfl⟩
      obtain ⟨c', hc'⟩ : ∃ c', c' = ck - q := ⟨_, rfl⟩
      have hM : RdL wr w.heap.size (.slice AK q ck) (K.take q) := hkv.take (by omega)
      have hR : RdL wr w.heap.size (.slice A' r c') (K.drop (L - f.safe)) := by
        have h1 := hkv.drop (lo := q) (by omega)
        have e1 : K.drop q = K.drop (L - f.safe) := by
          by_cases e : L - f.safe ≤ kl
          · rw [show q = L - f.safe by omega]
          · rw [List.drop_of_length_le (by omega), List.drop_of_length_le (by omega)]
        rw [hA', hc', hr, hkl, hib1]
        rw [e1] at h1
        exact h1
      have hrem : remM f (K.take q) = remM f K := by
        by_cases e : L - f.safe ≤ kl
        · exact remM_cut f K q (by omega)
        · rw [List.take_of_length_le (by omega)]
      have hsl2 : ∀ W : World, (Instr.slice 41 (.slice AK kl ck) (some (.int .i64 (q : Int))) none none).run Try.prog W = .ok (.slice A' r c') W := fun W => by
        rw [hA', hr, hc']; exact run_slice_from _ _ ib Try.underlying41 hib AK kl ck q (by omega) (by omega) W
      have HSL2 := Lib.hid hsl2
      have hsl1 : ∀ W : World, (Instr.slice 41 (.slice AK kl ck) none (some (.int .i64 (q : Int))) none).run Try.prog W = .ok (.slice AK q ck) W := run_slice_to _ _ ib Try.underlying41 hib AK kl ck q (by omega)
      rw [← hkl] at hkv hkc ⊢
      rw [← hL] at c1' hdat' hsafe hdl
      have hql : (K.take q).length ≤ f.data.length - f.safe := by simp; omega
      have HQL := Lib.hid hql
      have HREM := Lib.hid hrem
      have HKS := Lib.hid hks
      have HCT := Lib.hid hct
      have HLL := Lib.hid hL
      have HSF := Lib.hid hsafe
      clear hql hsl2 hrem hK hfe k0 k1 k2 hdat hks hct hA' hc' hr hkl hL
      by_cases hmn : kl < L - f.safe
      · obtain rfl : q = kl := by omega
        have j1 : (q : Int) < (L : Int) - (f.safe : Int) := by omega
        clear hq hmn
        have hsl2 := HSL2.out
        have hbx : Below w.heap.size w (wr.alloc (.cells #[.string f.name, .slice A L cc, .int .i64 (f.safe : Int)] 70)) := hb.alloc hb.size _
        go_wp2_with fail
        obtain ⟨wb, hwbe⟩ : ∃ wb, wb = (wr.alloc (.cells #[.string f.name, .slice A L cc, .int .i64 (f.safe : Int)] 70)) := ⟨_, rfl⟩
        have b0 : wb.cell? ⟨wr.heap.size, 0, none⟩ = some (.string f.name) := by rw [hwbe]; exact blk_cell (heap_alloc_new wr _) 0
        have b1 : wb.cell? ⟨wr.heap.size, 1, none⟩ = some (.slice A L cc) := by rw [hwbe]; exact blk_cell (heap_alloc_new wr _) 1
        have b2 : wb.cell? ⟨wr.heap.size, 2, none⟩ = some (.int .i64 (f.safe : Int)) := by rw [hwbe]; exact blk_cell (heap_alloc_new wr _) 2
        have hbs : wb.heap.size = wr.heap.size + 1 := by rw [hwbe]; simp
        have hbw : Below wr.heap.size wr wb := by rw [hwbe]; exact (Below.refl _ _).alloc (Nat.le_refl _) _
        rw [← hwbe] at hbx ⊢
        clear hwbe hsl1 hsl2
        have HCALL : Hid (Calls Try.prog 50 #[.agg #[.string f.name, .slice A L cc, .int .i64 (f.safe : Int)], .slice AK q ck] wb.drew fun e w' => ∃ v, e = .returned v ∧ Own w' wb.heap.size v (remM f K) ∧ Below wb.heap.size wb w') := by
          have hd2 := hdat'.below hbw
          have hM2 := (hM.more hb.size).up (Nat.le_refl _) hbw
          have := remains_any wb.drew f (.slice A L cc) (.slice AK q ck) (K.take q) hd2 (by have := HSF.out; have := HLL.out; omega) hM2 HQL.out (by have := HLL.out; omega)
          rw [HREM.out] at this
          exact Lib.hid (this.mono fun e w' ⟨v, h1, h2, h3⟩ => ⟨v, h1, h2, ⟨h3.os, h3.tape, h3.output, h3.size, h3.block⟩⟩)
        have HPUSH : Hid (∀ (w2 : World) (v2 : Value), Own w2 wb.heap.size v2 (remM f K) → Below wb.heap.size wb w2 → ∃ v3 w3, (Builtin.append_ #[22, 22] 22 #[u5, .slice (some ⟨w2.heap.size, 0, none⟩) 1 1]).run Try.prog (w2.alloc (.cells #[.string f.name, v2] 62)) = .ok v3 w3 ∧
            RdL w3 w.heap.size (.slice A' r c') (keepAt m.files keep (k + 1)) ∧ OutAt w3 w.heap.size v3 ((crashM m.files keep).take (k + 1)) ∧ Below w.heap.size w w3) := Lib.hid fun w2 v2 ho2 hb2 => by
          have hb3 : Below w2.heap.size w2 (w2.alloc (.cells #[.string f.name, v2] 62)) := (Below.refl _ _).alloc (Nat.le_refl _) _
          have hl2 := ((hlv.below hbw).below hb2).below hb3
          have hb4 : Below w.heap.size w (w2.alloc (.cells #[.string f.name, v2] 62)) := (hbx.trans (hb2.mono hbx.size)).trans (hb3.mono (Nat.le_trans hbx.size hb2.size))
          have ho3 := (ho2.more (B' := w.heap.size) hbx.size).below hb3
          obtain ⟨v3, w3, hrun, ho4, hg4⟩ := hl2.push (P := Try.prog) 22 22 i0 Try.underlying22 hi hz hsz hby rfl f.name (remM f K) v2 ho3 (b := w2.heap.size) (o := 0) (c := 1)
            (fun j x hj => by
              rw [addr_add_none', Nat.zero_add, blk_cell (heap_alloc_new w2 _) j]
              simpa using hj) (by rw [List.length_take, crashM_length]; omega) hb4.size
          have hb5 : Below w.heap.size (w2.alloc (.cells #[.string f.name, v2] 62)) w3 := (Below.refl _ _).grown hg4 hb4.size fun j hj => (hl2.lt j hj).1
          refine ⟨v3, w3, hrun, ?_, by rw [HCT.out]; exact ho4, hb4.trans hb5⟩
          rw [HKS.out, ← HLL.out]
          have hbw' : Below w.heap.size wr wb := hbw.mono hb.size
          exact (((hR.below hbw').below (hb2.mono hbx.size)).below (hb3.mono (Nat.le_trans hbx.size hb2.size))).below hb5
        clear hbx hdat' hM hR hlv hkv
        go_region_law (first
          | (go_simp; with_reducible refine (HCALL.out).mono ?_; rintro e w2 ⟨v2, rfl, ho2, hb2⟩; dsimp only; obtain ⟨A2, c2, hv2⟩ := ho2.form; subst hv2; have e0 := (hb2.cell (p := ⟨wr.heap.size, 0, none⟩) (by rw [hbs]; exact Nat.lt_succ_self _)).trans b0)
          | (have hq2 := hb2; have hq := HPUSH.out _ _ ho2 hq2; obtain ⟨v3, w3, hrun3, hfin3⟩ := hq; refine wp_append_run (.tmp 37) (.tmp 44) _ rfl rfl rfl hrun3 ?_)
          | fail)
        all_goals
          have HX := Lib.hid hfin3
          clear hfin3 ho2 hb2 hrun3
          go_wp2_with fail
          exact ⟨⟨k + 1, by omega, by go_num, HX.out⟩, by simp [intOf]; omega⟩
      · have j1 : (L : Int) - (f.safe : Int) ≤ (kl : Int) := by omega
        have j2 : (0 : Int) ≤ (L : Int) - (f.safe : Int) := by omega
        have hsl1 : ∀ W : World, (Instr.slice 41 (.slice AK kl ck) none (some (.int .i64 ((L : Int) - (f.safe : Int)))) none).run Try.prog W = .ok (.slice AK q ck) W := by
          have e : (L : Int) - (f.safe : Int) = (q : Int) := by omega
          rw [e]; exact hsl1
        clear hq hmn
        have hsl2 := HSL2.out
        have hbx : Below w.heap.size w (wr.alloc (.cells #[.string f.name, .slice A L cc, .int .i64 (f.safe : Int)] 70)) := hb.alloc hb.size _
        go_wp2_with fail
        obtain ⟨wb, hwbe⟩ : ∃ wb, wb = (wr.alloc (.cells #[.string f.name, .slice A L cc, .int .i64 (f.safe : Int)] 70)) := ⟨_, rfl⟩
        have b0 : wb.cell? ⟨wr.heap.size, 0, none⟩ = some (.string f.name) := by rw [hwbe]; exact blk_cell (heap_alloc_new wr _) 0
        have b1 : wb.cell? ⟨wr.heap.size, 1, none⟩ = some (.slice A L cc) := by rw [hwbe]; exact blk_cell (heap_alloc_new wr _) 1
        have b2 : wb.cell? ⟨wr.heap.size, 2, none⟩ = some (.int .i64 (f.safe : Int)) := by rw [hwbe]; exact blk_cell (heap_alloc_new wr _) 2
        have hbs : wb.heap.size = wr.heap.size + 1 := by rw [hwbe]; simp
        have hbw : Below wr.heap.size wr wb := by rw [hwbe]; exact (Below.refl _ _).alloc (Nat.le_refl _) _
        rw [← hwbe] at hbx ⊢
        clear hwbe hsl1 hsl2
        have HCALL : Hid (Calls Try.prog 50 #[.agg #[.string f.name, .slice A L cc, .int .i64 (f.safe : Int)], .slice AK q ck] wb.drew fun e w' => ∃ v, e = .returned v ∧ Own w' wb.heap.size v (remM f K) ∧ Below wb.heap.size wb w') := by
          have hd2 := hdat'.below hbw
          have hM2 := (hM.more hb.size).up (Nat.le_refl _) hbw
          have := remains_any wb.drew f (.slice A L cc) (.slice AK q ck) (K.take q) hd2 (by have := HSF.out; have := HLL.out; omega) hM2 HQL.out (by have := HLL.out; omega)
          rw [HREM.out] at this
          exact Lib.hid (this.mono fun e w' ⟨v, h1, h2, h3⟩ => ⟨v, h1, h2, ⟨h3.os, h3.tape, h3.output, h3.size, h3.block⟩⟩)
        have HPUSH : Hid (∀ (w2 : World) (v2 : Value), Own w2 wb.heap.size v2 (remM f K) → Below wb.heap.size wb w2 → ∃ v3 w3, (Builtin.append_ #[22, 22] 22 #[u5, .slice (some ⟨w2.heap.size, 0, none⟩) 1 1]).run Try.prog (w2.alloc (.cells #[.string f.name, v2] 62)) = .ok v3 w3 ∧
            RdL w3 w.heap.size (.slice A' r c') (keepAt m.files keep (k + 1)) ∧ OutAt w3 w.heap.size v3 ((crashM m.files keep).take (k + 1)) ∧ Below w.heap.size w w3) := Lib.hid fun w2 v2 ho2 hb2 => by
          have hb3 : Below w2.heap.size w2 (w2.alloc (.cells #[.string f.name, v2] 62)) := (Below.refl _ _).alloc (Nat.le_refl _) _
          have hl2 := ((hlv.below hbw).below hb2).below hb3
          have hb4 : Below w.heap.size w (w2.alloc (.cells #[.string f.name, v2] 62)) := (hbx.trans (hb2.mono hbx.size)).trans (hb3.mono (Nat.le_trans hbx.size hb2.size))
          have ho3 := (ho2.more (B' := w.heap.size) hbx.size).below hb3
          obtain ⟨v3, w3, hrun, ho4, hg4⟩ := hl2.push (P := Try.prog) 22 22 i0 Try.underlying22 hi hz hsz hby rfl f.name (remM f K) v2 ho3 (b := w2.heap.size) (o := 0) (c := 1)
            (fun j x hj => by
              rw [addr_add_none', Nat.zero_add, blk_cell (heap_alloc_new w2 _) j]
              simpa using hj) (by rw [List.length_take, crashM_length]; omega) hb4.size
          have hb5 : Below w.heap.size (w2.alloc (.cells #[.string f.name, v2] 62)) w3 := (Below.refl _ _).grown hg4 hb4.size fun j hj => (hl2.lt j hj).1
          refine ⟨v3, w3, hrun, ?_, by rw [HCT.out]; exact ho4, hb4.trans hb5⟩
          rw [HKS.out, ← HLL.out]
          have hbw' : Below w.heap.size wr wb := hbw.mono hb.size
          exact (((hR.below hbw').below (hb2.mono hbx.size)).below (hb3.mono (Nat.le_trans hbx.size hb2.size))).below hb5
        clear hbx hdat' hM hR hlv hkv
        go_region_law (first
          | (go_simp; with_reducible refine (HCALL.out).mono ?_; rintro e w2 ⟨v2, rfl, ho2, hb2⟩; dsimp only; obtain ⟨A2, c2, hv2⟩ := ho2.form; subst hv2; have e0 := (hb2.cell (p := ⟨wr.heap.size, 0, none⟩) (by rw [hbs]; exact Nat.lt_succ_self _)).trans b0)
          | (have hq2 := hb2; have hq := HPUSH.out _ _ ho2 hq2; obtain ⟨v3, w3, hrun3, hfin3⟩ := hq; refine wp_append_run (.tmp 37) (.tmp 44) _ rfl rfl rfl hrun3 ?_)
          | fail)
        all_goals
          have HX := Lib.hid hfin3
          clear hfin3 ho2 hb2 hrun3
          go_wp2_with fail
          exact ⟨⟨k + 1, by omega, by go_num, HX.out⟩, by simp [intOf]; omega⟩
    · have i2 : ¬ (k : Int) < (n : Int) := by omega
      have he : (crashM m.files keep).take k = crashM m.files keep := List.take_of_length_le (by rw [crashM_length]; have := HN.out; omega)
      rw [he] at hlv
      have HX := Lib.hid (And.intro hlv hb)
      clear he hlv
      go_wp2
      go_ret
      exact ⟨_, rfl, HX.out⟩
end Go.Proofs.Ytbbpkenbeenocaa
