
/- The walks of a disk: what it holds is found; New, Down, Arm, goes. -/
import Derived.Test.YtbbpkenbeenocaaDiskA
import Derived.Test.YtbbpkenbeenocaaClone
import Derived.LoopTactic
import Derived.Outline
namespace Go.Proofs.Ytbbpkenbeenocaa
set_option maxRecDepth 100000
open Go Go.RowKit
set_option linter.unusedVariables false

theorem str_ne' {s t : ByteArray} (h : ¬ s = t) : (s.toList == t.toList) = false := by
  rw [Lib.toList_data, Lib.toList_data, beq_eq_false_iff_ne]
  intro e
  apply h
  cases s; cases t
  simp only [ByteArray.mk.injEq]
  exact Array.toList_inj.1 e
/-- a disk of the program at block d -/
def DiskAt (w : World) (F : Nat → Prop) (d : Nat) (m : DM) : Prop :=
  ∃ fv u, w.heap[d]? = some (.cells #[fv, .bool m.off, .bool (decide (0 < m.left)), .int .i64 u] 67 (0, 0)) ∧ F d ∧ FilesAt 70 w F fv m.files ∧ (∀ k, F k → k < w.heap.size) ∧
    0 ≤ m.left ∧ m.left ≤ 9223372036854775807 ∧ (0 < m.left → u = m.left)

theorem FilesAt.apart {T T' : TypeId} {w : World} {F : Nat → Prop} {v : Value} {fs : List FM} {d : Nat} {cs : Array Value} (h : FilesAt T w F v fs) (hd : w.heap[d]? = some (.cells cs T' (0, 0))) (h1 : T' ≠ T) (h2 : T' ≠ 5) : FilesAt T w (fun k => F k ∧ k ≠ d) v fs := by
  obtain ⟨ps, e1, e2, e3, e4, e5⟩ := h
  refine ⟨ps, e1, e2, fun k hk => ⟨e3 k hk, fun e => ?_⟩, fun j p hp => ⟨(e4 j p hp).1, (e4 j p hp).2.1, fun k hk => ⟨(e4 j p hp).2.2 k hk, fun e => by subst e; exact (e4 j p hp).1.ne hd h2 hk⟩⟩, e5⟩
  subst e
  rcases e2.2 with ⟨rfl, h0⟩ | ⟨g, cap, cur, rfl, hB, hg, _⟩
  · simp [Value.ownBlock] at hk
  · simp only [Value.ownBlock, Option.some.injEq] at hk
    subst hk
    rw [hd] at hg
    injection hg with hg
    injection hg with _ hg _
    exact h1 hg
theorem FilesAt.set_apart {T T' : TypeId} {w : World} {F : Nat → Prop} {v : Value} {fs : List FM} {d : Nat} {cs : Array Value} (h : FilesAt T w F v fs) (hd : w.heap[d]? = some (.cells cs T' (0, 0))) (h1 : T' ≠ T) (h2 : T' ≠ 5) (i : Nat) (u : Value) : FilesAt T (w.setCell ⟨d, i, none⟩ u) F v fs :=
  ((h.apart hd h1 h2).keep fun k _ hk => Below.heap_setCell w _ _ k hk.2).mono fun _ => And.left
theorem addr_add_none' (b o i : Nat) : (⟨b, o, none⟩ : Addr).add i = ⟨b, o + i, none⟩ := by unfold Addr.add; split <;> simp_all

section
variable {w w' : World} {F G : Nat → Prop} {d : Nat} {m : DM}
theorem DiskAt.lt (h : DiskAt w F d m) : ∀ k, F k → k < w.heap.size := by obtain ⟨_, _, _, _, _, h, _⟩ := h; exact h
theorem DiskAt.here (h : DiskAt w F d m) : F d := by obtain ⟨_, _, _, h, _⟩ := h; exact h
theorem DiskAt.left (h : DiskAt w F d m) : 0 ≤ m.left ∧ m.left ≤ 9223372036854775807 := by obtain ⟨_, _, _, _, _, _, h1, h2, _⟩ := h; exact ⟨h1, h2⟩
theorem DiskAt.keep (h : DiskAt w F d m) (hc : Chg w w' G) (hn : ∀ k, F k → ¬ G k) : DiskAt w' F d m := by
  obtain ⟨fv, u, h1, h2, h3, h4, h5⟩ := h
  exact ⟨fv, u, (hc.block d (h4 d h2) (hn d h2)).trans h1, h2, h3.keep fun k hk hF => hc.block k hk (hn k hF), fun k hk => Nat.lt_of_lt_of_le (h4 k hk) hc.size, h5⟩
theorem DiskAt.below (h : DiskAt w F d m) (hb : Below w.heap.size w w') : DiskAt w' F d m := h.keep (G := fun _ => False) (.of_below hb _) fun _ _ => id
theorem DiskAt.mono (h : DiskAt w F d m) (hF : ∀ k, F k → G k) (hG : ∀ k, G k → k < w.heap.size) : DiskAt w G d m := by
  obtain ⟨fv, u, h1, h2, h3, h4, h5⟩ := h
  exact ⟨fv, u, h1, hF d h2, h3.mono hF, hG, h5⟩
theorem DiskAt.ext (h : DiskAt w F d m) (hs : w.heap.size ≤ w'.heap.size) (hk : DiskAt w' F d m) : DiskAt w' (Ext F w w') d m := hk.mono (fun _ => .inl) (Ext.lt h.lt hs)
end

variable {w : World} {F : Nat → Prop} {d : Nat} {m : DM}

set_option maxHeartbeats 400000 in
theorem new_any (w : World) (F : Nat → Prop) :
    Calls Try.prog 25 #[] w fun e w' => e = .returned (.pointer (some ⟨w.heap.size, 0, none⟩)) ∧ DiskAt w' (fun k => k = w.heap.size) w.heap.size ⟨[], false, 0⟩ ∧ Below w.heap.size w w' := by
  go_enter Try.func25, Try.ntmps25
  go_wp2
  go_ret
  refine ⟨rfl, ⟨_, _, heap_alloc_new w _, rfl, FilesAt.nil _ _ _, fun k hk => by subst hk; simp, by decide, by decide, fun h => absurd h (by decide)⟩, (Below.refl _ _).alloc (Nat.le_refl _) _⟩

theorem down_any (h : DiskAt w F d m) : Calls Try.prog 26 #[.pointer (some ⟨d, 0, none⟩)] w fun e w' => e = .returned (.bool m.off) ∧ w = w' := by
  obtain ⟨fv, u, hd, _⟩ := h
  have c1 : w.cell? ⟨d, 1, none⟩ = some (.bool m.off) := blk_cell hd 1
  go_enter Try.func26, Try.ntmps26
  go_wp2
  go_ret
  exact ⟨rfl, rfl⟩

theorem named_any (s : ByteArray) (w : World) (hs : s.size ≤ maxLen) : Calls Try.prog 29 #[.string s] w fun e w' => e = .returned (.bool (namedB s)) ∧ w = w' := by
  unfold maxLen at hs
  by_cases h1 : 1 ≤ s.size
  · by_cases h2 : s.size ≤ 32
    · have e : namedB s = true := by simp [namedB, h1, h2]
      have i1 : (1 : Int) ≤ (s.size : Int) := by omega
      have i2 : (s.size : Int) ≤ 32 := by omega
      rw [e]
      clear e
      go_enter Try.func29, Try.ntmps29
      go_wp2
      go_ret
      exact ⟨rfl, rfl⟩
    · have e : namedB s = false := by simp [namedB, h2]
      have i1 : (1 : Int) ≤ (s.size : Int) := by omega
      have i2 : decide ((s.size : Int) ≤ 32) = false := by simp; omega
      rw [e]
      clear e
      go_enter Try.func29, Try.ntmps29
      go_wp2
      go_ret
      exact ⟨rfl, rfl⟩
  · have e : namedB s = false := by simp [namedB, h1]
    have i1 : decide ((1 : Int) ≤ (s.size : Int)) = false := by simp; omega
    rw [e]
    clear e
    go_enter Try.func29, Try.ntmps29
    go_wp2
    go_ret
    exact ⟨rfl, rfl⟩

theorem DiskAt.set2 {fv : Value} {u : Int} (hd : w.heap[d]? = some (.cells #[fv, .bool m.off, .bool (decide (0 < m.left)), .int .i64 u] 67 (0, 0))) (hF : F d) (hf : FilesAt 70 w F fv m.files) (hlt : ∀ k, F k → k < w.heap.size)
    {w' : World} {l : Int} {off : Bool} {u' : Int} (hw : w'.heap[d]? = some (.cells #[fv, .bool off, .bool (decide (0 < l)), .int .i64 u'] 67 (0, 0))) (hc : Chg w w' (fun k => k = d)) (hl : 0 ≤ l ∧ l ≤ 9223372036854775807) (hu : 0 < l → u' = l) :
    DiskAt w' F d { m with off := off, left := l } ∧ Chg w w' F := by
  refine ⟨⟨fv, u', hw, hF, ?_, fun k hk => Nat.lt_of_lt_of_le (hlt k hk) hc.size, hl.1, hl.2, hu⟩, hc.mono fun k _ e => by subst e; exact hF⟩
  obtain ⟨ps, h1, h2, h3, h4, h5⟩ := hf
  have hne : ∀ k, fv.ownBlock = some k → k ≠ d := fun k hk e => by
    subst e
    rcases h2.2 with ⟨rfl, h0⟩ | ⟨g, cap, cur, rfl, hB, hg, _⟩
    · simp [Value.ownBlock] at hk
    · simp only [Value.ownBlock, Option.some.injEq] at hk
      subst hk
      rw [hd] at hg
      injection hg with hg
      injection hg with _ hg _
      exact absurd hg (by decide)
  refine ⟨ps, h1, ⟨h2.1, ?_⟩, h3, fun j p hp => ⟨(h4 j p hp).1.keep fun k hk => hc.block k ((h4 j p hp).1.lt k hk) (fun e => by subst e; exact (h4 j p hp).1.ne hd (by decide) hk), (h4 j p hp).2⟩, h5⟩
  rcases h2.2 with h0 | ⟨g, cap, cur, hv, hB, hg, rest⟩
  · exact .inl h0
  · exact .inr ⟨g, cap, cur, hv, hB, (hc.block g (blk_lt hg) (hne g (by subst hv; rfl))).trans hg, rest⟩

set_option maxHeartbeats 400000 in
theorem arm_any (h : DiskAt w F d m) (n : Int) (hn : -9223372036854775808 ≤ n ∧ n ≤ 9223372036854775807) :
    Calls Try.prog 18 #[.pointer (some ⟨d, 0, none⟩), .int .i64 n] w fun e w' => e = .returned (.tuple #[]) ∧ DiskAt w' F d (armM m n) ∧ Chg w w' F := by
  have h0 := h
  obtain ⟨fv, u, hd, hF, hf, hlt, hl1, hl2, hu⟩ := h
  have c1 : w.cell? ⟨d, 1, none⟩ = some (.bool m.off) := blk_cell hd 1
  have c2 : w.cell? ⟨d, 2, none⟩ = some (.bool (decide (0 < m.left))) := blk_cell hd 2
  have c3 : w.cell? ⟨d, 3, none⟩ = some (.int .i64 u) := blk_cell hd 3
  have z2 : w.frozen? ⟨d, 2, none⟩ = false := blk_free hd 2
  have z3 : w.frozen? ⟨d, 3, none⟩ = false := blk_free hd 3
  have HU := Lib.hid hu
  clear hu
  by_cases ho : m.off = true
  · have e : armM m n = m := by simp [armM, ho]
    rw [e]
    clear e
    rw [ho] at c1
    clear ho c2
    go_enter Try.func18, Try.ntmps18
    go_wp2
    exact bodyPost_ret (results_none rfl _ _ _) rfl ⟨rfl, h0, Chg.refl _ _⟩
  · have e : armM m n = { m with left := max 0 n } := by simp [armM, ho]
    rw [e]
    clear e
    have ho' : m.off = false := by simpa using ho
    rw [ho'] at c1
    have hw : ((w.setCell ⟨d, 2, none⟩ (.bool (decide (1 ≤ n)))).setCell ⟨d, 3, none⟩ (.int .i64 n)).heap[d]? = some (.cells #[fv, .bool m.off, .bool (decide (0 < max 0 n)), .int .i64 n] 67 (0, 0)) := by
      have e : decide (0 < max 0 n) = decide (1 ≤ n) := by rw [decide_eq_decide]; omega
      rw [e]
      exact blk_set (blk_set hd 2 _) 3 _
    have hfin := DiskAt.set2 hd hF hf hlt hw ((Chg.set w (F := fun k => k = d) (p := ⟨d, 2, none⟩) rfl _).trans' (Chg.set _ (F := fun k => k = d) (p := ⟨d, 3, none⟩) rfl _)) (l := max 0 n) (by omega) (by omega)
    have HF := Lib.hid hfin
    clear hfin hw ho ho'
    go_enter Try.func18, Try.ntmps18
    go_wp2
    go_end0
    exact ⟨rfl, HF.out⟩

set_option maxHeartbeats 400000 in
theorem goes_any (h : DiskAt w F d m) (ho : m.off = false) :
    Calls Try.prog 63 #[.pointer (some ⟨d, 0, none⟩)] w fun e w' => e = .returned (.bool (goesM m).1) ∧ DiskAt w' F d (goesM m).2 ∧ Chg w w' F := by
  have h0 := h
  obtain ⟨fv, u, hd, hF, hf, hlt, hl1, hl2, hu⟩ := h
  have z1 : w.frozen? ⟨d, 1, none⟩ = false := blk_free hd 1
  have z2 : w.frozen? ⟨d, 2, none⟩ = false := blk_free hd 2
  have z3 : w.frozen? ⟨d, 3, none⟩ = false := blk_free hd 3
  by_cases hl : m.left ≤ 0
  · have e : goesM m = (false, m) := by simp [goesM, hl]
    rw [e]
    clear e
    have e : decide (0 < m.left) = false := by simp; omega
    have c2 : w.cell? ⟨d, 2, none⟩ = some (.bool false) := by have := blk_cell hd 2; simpa [e] using this
    clear e
    go_enter Try.func63, Try.ntmps63
    go_wp2
    go_ret
    exact ⟨rfl, h0, Chg.refl _ _⟩
  · obtain rfl : u = m.left := hu (by omega)
    have e0 : decide (0 < m.left) = true := by simp; omega
    have c2 : w.cell? ⟨d, 2, none⟩ = some (.bool true) := by have := blk_cell hd 2; simpa [e0] using this
    have c3 : w.cell? ⟨d, 3, none⟩ = some (.int .i64 m.left) := blk_cell hd 3
    have c1 : w.cell? ⟨d, 1, none⟩ = some (.bool m.off) := blk_cell hd 1
    by_cases h1 : m.left = 1
    · have e : goesM m = (true, { m with off := true, left := 0 }) := by simp [goesM, h1]
      rw [e]
      clear e
      have hw : (((w.setCell ⟨d, 3, none⟩ (.int .i64 0)).setCell ⟨d, 2, none⟩ (.bool false)).setCell ⟨d, 1, none⟩ (.bool true)).heap[d]? = some (.cells #[fv, .bool true, .bool (decide ((0 : Int) < 0)), .int .i64 0] 67 (0, 0)) :=
        blk_set (blk_set (blk_set hd 3 _) 2 _) 1 _
      have hfin := DiskAt.set2 hd hF hf hlt hw (((Chg.set w (F := fun k => k = d) (p := ⟨d, 3, none⟩) rfl _).trans' (Chg.set _ (F := fun k => k = d) (p := ⟨d, 2, none⟩) rfl _)).trans' (Chg.set _ (F := fun k => k = d) (p := ⟨d, 1, none⟩) rfl _)) (l := 0) (by omega) (by omega)
      have HF := Lib.hid hfin
      clear hfin hw e0 hu
      rw [h1] at c3
      clear h1 hl hl1 hl2
      go_enter Try.func63, Try.ntmps63
      go_wp2
      go_ret
      exact ⟨rfl, HF.out⟩
    · have e : goesM m = (false, { m with left := m.left - 1 }) := by simp [goesM, h1, hl]
      rw [e]
      clear e
      have hw : (w.setCell ⟨d, 3, none⟩ (.int .i64 (m.left - 1))).heap[d]? = some (.cells #[fv, .bool m.off, .bool (decide (0 < m.left - 1)), .int .i64 (m.left - 1)] 67 (0, 0)) := by
        have e : decide (0 < m.left - 1) = decide (0 < m.left) := by rw [decide_eq_decide]; omega
        rw [e]
        exact blk_set hd 3 _
      have hfin := DiskAt.set2 hd hF hf hlt hw (Chg.set w (F := fun k => k = d) (p := ⟨d, 3, none⟩) rfl _) (l := m.left - 1) (by omega) (by omega)
      have HF := Lib.hid hfin
      clear hfin hw e0 hu
      have i1 : 2 ≤ m.left := by omega
      clear hl h1
      go_enter Try.func63, Try.ntmps63
      go_wp2
      go_ret
      exact ⟨rfl, HF.out⟩

set_option maxHeartbeats 1000000 in
theorem find_any (h : DiskAt w F d m) (s : ByteArray) :
    Calls Try.prog 30 #[.pointer (some ⟨d, 0, none⟩), .string s] w fun e w' => e = .returned (.int .i64 (findI m.files s)) ∧ Below w.heap.size w w' := by
  obtain ⟨fv, u, hd, hF, hf, hlt, hl⟩ := h
  have c0 : w.cell? ⟨d, 0, none⟩ = some fv := blk_cell hd 0
  obtain ⟨A, c, rfl, hc, hcm⟩ := hf.form
  unfold maxLen at hcm
  obtain ⟨n, hn⟩ : ∃ n, n = m.files.length := ⟨_, rfl⟩
  have HN := Lib.hid hn
  rw [← hn] at hc c0
  have HFF := Lib.hid hf
  clear hn hd hf
  go_enter Try.func30, Try.ntmps30
  go_wp2
  go_loopw [12] (fun i wr => ∃ k : Nat, k ≤ n ∧ i = .int .i64 (k : Int) ∧ Below w.heap.size w wr ∧ ∀ j (hj : j < k) (hj2 : j < m.files.length), m.files[j].name ≠ s)
    (fun i _ => n - (intOf i).toNat)
  case atStart => exact ⟨0, Nat.zero_le _, rfl, Below.refl _ _, fun j hj => absurd hj (by omega)⟩
  case round =>
    obtain ⟨k, hk, rfl, hb, hne⟩ := hrel
    by_cases hlt' : k < n
    · have hkl : k < m.files.length := by have := HN.out; omega
      obtain ⟨g, o, dv, rfl, hFg, hgl, _, k0, k1, k2, _, hdat, _⟩ := (HFF.out).at_ (by decide) k hkl
      obtain ⟨A, cc, rfl⟩ := hdat.form
      have c0' := (hb.cell (p := ⟨g, o + k * 3, none⟩) hgl).trans k0
      have c1' := (hb.cell (p := ⟨g, o + k * 3 + 1, none⟩) hgl).trans k1
      have c2' := (hb.cell (p := ⟨g, o + k * 3 + 2, none⟩) hgl).trans k2
      clear k0 k1 k2 hdat
      have HNE := Lib.hid hne
      clear hne
      have i1 : (0 : Int) ≤ (k : Int) := by omega
      have i2 : (k : Int) < (n : Int) := by omega
      by_cases hnm : m.files[k].name = s
      · have hans : findI m.files s = (k : Int) := by unfold findI; rw [placeF_hit m.files s k hkl hnm (fun j hj => HNE.out j hj (by omega)), if_pos hkl]
        have HA := Lib.hid hans
        clear hans
        go_wp2
        go_ret
        exact ⟨by rw [HA.out]; rfl, hb.alloc hb.size _⟩
      · have hnm' := str_ne' hnm
        have HM := Lib.hid hnm
        clear hnm
        go_wp2
        refine ⟨⟨k + 1, by omega, by go_num, hb.alloc hb.size _, fun j hj hj2 => ?_⟩, by simp [intOf]; omega⟩
        by_cases e : j = k
        · subst e; exact HM.out
        · exact HNE.out j (by omega) hj2
    · have i2 : ¬ (k : Int) < (n : Int) := by omega
      have hans : findI m.files s = -1 := by unfold findI; rw [placeF_miss m.files s (fun j hj => hne j (by have := HN.out; omega) hj), if_neg (by omega)]
      have HA := Lib.hid hans
      clear hans hne
      go_wp2
      go_ret
      exact ⟨by rw [HA.out]; rfl, hb⟩

theorem DiskAt.offc (h : DiskAt w F d m) : w.cell? ⟨d, 1, none⟩ = some (.bool m.off) := by
  obtain ⟨fv, u, hd, _⟩ := h
  exact blk_cell hd 1

theorem begin_any (h : DiskAt w F d m) :
    Calls Try.prog 69 #[.pointer (some ⟨d, 0, none⟩)] w fun e w' => e = .returned (.int .i64 (if m.off = true ∨ (goesM m).1 = true then 51 else 0)) ∧ DiskAt w' F d (if m.off = true then m else (goesM m).2) ∧ Chg w w' F := by
  have c1 := h.offc
  by_cases ho : m.off = true
  · rw [ho] at c1
    have e1 : (if m.off = true ∨ (goesM m).1 = true then (51 : Int) else 0) = 51 := if_pos (.inl ho)
    have e2 : (if m.off = true then m else (goesM m).2) = m := if_pos ho
    rw [e1, e2]
    clear e1 e2 ho
    go_enter Try.func69, Try.ntmps69
    go_wp2
    go_ret
    exact ⟨rfl, h, Chg.refl _ _⟩
  · have ho' : m.off = false := by simpa using ho
    rw [ho'] at c1
    have e2 : (if m.off = true then m else (goesM m).2) = (goesM m).2 := if_neg ho
    have HO := Lib.hid ho'
    obtain ⟨gb, hgb⟩ : ∃ gb, gb = (goesM m).1 := ⟨_, rfl⟩
    have HG := Lib.hid hgb
    rw [e2]
    cases gb
    · have e1 : (if m.off = true ∨ (goesM m).1 = true then (51 : Int) else 0) = 0 := by rw [← hgb]; simp [ho]
      rw [e1]
      clear e1 e2 ho ho' hgb
      go_enter Try.func69, Try.ntmps69
      go_wp2_with fail
      refine (goes_any h HO.out).mono ?_
      rintro e w1 ⟨rfl, h1, hc1⟩
      rw [← HG.out]
      clear c1
      go_wp2_with fail
      go_ret
      exact ⟨rfl, h1, hc1⟩
    · have e1 : (if m.off = true ∨ (goesM m).1 = true then (51 : Int) else 0) = 51 := by rw [← hgb]; simp
      rw [e1]
      clear e1 e2 ho ho' hgb
      go_enter Try.func69, Try.ntmps69
      go_wp2_with fail
      refine (goes_any h HO.out).mono ?_
      rintro e w1 ⟨rfl, h1, hc1⟩
      rw [← HG.out]
      clear c1
      go_wp2_with fail
      go_ret
      exact ⟨rfl, h1, hc1⟩

theorem DiskAt.widen {w' w1 : World} (h : DiskAt w' (Ext F w1 w') d m) (hs : w.heap.size ≤ w1.heap.size) : DiskAt w' (Ext F w w') d m :=
  h.mono (fun k hk => hk.imp id fun hk => ⟨by omega, hk.2⟩) fun k hk => hk.elim (fun hF => h.lt k (.inl hF)) And.right

/-- the bytes of file k, where they lie, and what may be written there -/
theorem DiskAt.slot (h : DiskAt w F d m) (k : Nat) (hk : k < m.files.length) :
    ∃ g o c A2 c2, w.cell? ⟨d, 0, none⟩ = some (.slice (some ⟨g, o, none⟩) m.files.length c) ∧ m.files.length ≤ c ∧ c ≤ maxLen ∧ w.cell? ⟨g, o + k * 3 + 1, none⟩ = some (.slice A2 m.files[k].data.length c2) ∧ w.cell? ⟨g, o + k * 3 + 2, none⟩ = some (.int .i64 (m.files[k].safe : Int)) ∧
      w.frozen? ⟨g, o + k * 3 + 1, none⟩ = false ∧ w.frozen? ⟨g, o + k * 3 + 2, none⟩ = false ∧ Dat w (.slice A2 m.files[k].data.length c2) m.files[k].data ∧ m.files[k].safe ≤ m.files[k].data.length ∧
      (∀ W' : World, w.grownBy W' (Value.slice A2 m.files[k].data.length c2).ownBlock → W'.cell? ⟨d, 0, none⟩ = some (.slice (some ⟨g, o, none⟩) m.files.length c) ∧ W'.cell? ⟨g, o + k * 3 + 1, none⟩ = some (.slice A2 m.files[k].data.length c2) ∧ W'.frozen? ⟨g, o + k * 3 + 1, none⟩ = false) ∧
      (∀ (w2 : World) (v2 : Value) (l2 : List UInt8), Dat w2 v2 l2 → m.files[k].safe ≤ l2.length → w.grownBy w2 (Value.slice A2 m.files[k].data.length c2).ownBlock → (v2.ownBlock = (Value.slice A2 m.files[k].data.length c2).ownBlock ∨ v2.ownBlock = some w.heap.size) →
        DiskAt (w2.setCell ⟨g, o + k * 3 + 1, none⟩ v2) (Ext F w (w2.setCell ⟨g, o + k * 3 + 1, none⟩ v2)) d { m with files := m.files.modify k fun f => { f with data := l2 } } ∧ Chg w (w2.setCell ⟨g, o + k * 3 + 1, none⟩ v2) F) ∧
      (∀ s : Nat, s ≤ m.files[k].data.length → DiskAt (w.setCell ⟨g, o + k * 3 + 2, none⟩ (.int .i64 (s : Int))) F d { m with files := m.files.modify k fun f => { f with safe := s } } ∧ Chg w (w.setCell ⟨g, o + k * 3 + 2, none⟩ (.int .i64 (s : Int))) F) := by
  obtain ⟨fv, u, hd, hFd, hfl, hlt, hl⟩ := h
  obtain ⟨A, c, rfl, hcl, hcm⟩ := hfl.form
  obtain ⟨g, o, dv, rfl, hFg, hgl, ⟨gcs, hgc⟩, k0, k1, k2, hz0, hdat, hsafe, hown, hset2, hset⟩ := hfl.at_ (by decide) k hk
  have c0 : w.cell? ⟨d, 0, none⟩ = some (.slice (some ⟨g, o, none⟩) m.files.length c) := blk_cell hd 0
  have hne : dv.ownBlock ≠ some d := hdat.ne hd (by decide)
  have hneg : dv.ownBlock ≠ some g := hdat.ne hgc (by decide)
  have hgd : g ≠ d := fun e => by subst e; rw [hd] at hgc; injection hgc with hgc; injection hgc with _ hgc _; exact absurd hgc (by decide)
  obtain ⟨A2, c2, rfl⟩ := hdat.form
  refine ⟨g, o, c, A2, c2, c0, hcl, hcm, k1, k2, hz0 _, hz0 _, hdat, hsafe, fun W' hg => ⟨hg.cell c0 (fun e => hne e.symm), hg.cell k1 (fun e => hneg e.symm), (World.frozen?_of_block (hg.block g hgl (fun e => hneg e.symm))).trans (hz0 _)⟩,
    fun w2 v2 l2 hd2 hs2 hg2 hat2 => ?_, fun s hs => ⟨⟨_, u, ?_, hFd, hset2 s hs, fun j hj => by simpa [World.setCell] using hlt j hj, hl⟩, Chg.set w (p := ⟨g, o + k * 3 + 2, none⟩) hFg _⟩⟩
  · have hf2 := hset w2 v2 l2 hd2 hs2 hg2 hat2 hlt
    have hsz : (w2.setCell ⟨g, o + k * 3 + 1, none⟩ v2).heap.size = w2.heap.size := by simp [World.setCell]
    refine ⟨⟨_, u, ?_, .inl hFd, hf2.mono fun j hj => hj.imp id fun hj => ⟨hj.1, by rw [hsz]; exact hj.2⟩, ?_, hl⟩, (Chg.of_grown hg2 fun j hj => (hown j hj).1).trans' (Chg.set w2 (p := ⟨g, o + k * 3 + 1, none⟩) hFg _)⟩
    · rw [Below.heap_setCell w2 _ _ d (fun e => hgd e.symm)]
      have := (hg2.block d (blk_lt hd) fun e => hne e.symm).trans hd
      simpa using this
    · intro j hj
      rcases hj with hj | ⟨hj1, hj2⟩
      · rw [hsz]; exact Nat.lt_of_lt_of_le (hlt j hj) hg2.size
      · exact hj2
  · rw [Below.heap_setCell w _ _ d (fun e => hgd e.symm)]
    simpa using hd

theorem modify_data (fs : List FM) (k : Nat) (hk : k < fs.length) (b : List UInt8) : (fs.modify k fun f => { f with data := fs[k].data ++ b }) = fs.modify k fun f => { f with data := f.data ++ b } := by
  apply List.ext_getElem?
  intro j
  rw [List.getElem?_modify, List.getElem?_modify]
  by_cases e : k = j
  · subst e; simp [List.getElem?_eq_getElem hk]
  · simp [e]
end Go.Proofs.Ytbbpkenbeenocaa
