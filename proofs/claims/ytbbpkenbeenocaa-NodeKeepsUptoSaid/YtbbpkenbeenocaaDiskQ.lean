
/- The walk of a disk's Load. -/
import Derived.Test.YtbbpkenbeenocaaDiskP
import Derived.Test.YtbbpkenbeenocaaDiskG0
namespace Go.Proofs.Ytbbpkenbeenocaa
set_option maxRecDepth 100000
open Go Go.RowKit
set_option linter.unusedVariables false

/-- a disk in blocks from B on, at d -/
def DiskFrom (w : World) (B d : Nat) (m : DM) : Prop := ∃ F, DiskAt w F d m ∧ ∀ k, F k → B ≤ k
theorem Rd.form2 {w : World} {B : Nat} {v : Value} {l : List UInt8} {n : Nat} (h : Rd w B v l) (e : l.length = n) : ∃ A c, v = .slice A n c := by subst e; exact h.form
theorem len_le_sum {fs : List (ByteArray × List UInt8)} {f : ByteArray × List UInt8} (h : f ∈ fs) : f.2.length ≤ (fs.map fun f => f.2.length).sum := by
  induction fs with
  | nil => cases h
  | cons x r ih =>
    simp only [List.map_cons, List.sum_cons]
    rcases List.mem_cons.1 h with e | e
    · subst e; omega
    · have := ih e; omega

set_option maxHeartbeats 4000000 in
theorem load_some (w : World) (v : Value) (fs : List (ByteArray × List UInt8)) (hr : RdFs w w.heap.size v fs) (hlen : (fs.map fun f => f.2.length).sum ≤ 1000000000) (hnl : ∀ f ∈ fs, f.1.size ≤ maxLen) (l : List FM) (hload : loadL fs [] = some l) (h16 : fs.length ≤ 16) :
    Calls Try.prog 9 #[v] w fun e w' => ∃ d, e = .returned (.tuple #[.pointer (some ⟨d, 0, none⟩), .int .i64 0]) ∧ DiskFrom w' w.heap.size d ⟨l, false, 0⟩ ∧ Below w.heap.size w w' := by
  obtain ⟨A, c, rfl, hc, hcm, hp⟩ := hr
  unfold maxLen at hcm
  obtain ⟨n, hn⟩ : ∃ n, n = fs.length := ⟨_, rfl⟩
  rw [← hn] at hc ⊢
  obtain ⟨B, hB⟩ : ∃ B, B = w.heap.size := ⟨_, rfl⟩
  rw [← hB] at hp
  have HP := Lib.hid hp
  have HN := Lib.hid hn
  have HB := Lib.hid hB
  have HLOAD := Lib.hid hload
  rw [← hn] at h16
  have k16 : (n : Int) ≤ 16 := by omega
  clear hn hp hload
  go_enter Try.func9, Try.ntmps9
  go_wp2_with fail
  refine (new_any _ (fun _ => False)).mono ?_
  rintro e w1 ⟨rfl, h1, hB1⟩
  rw [← hB] at h1 hB1 ⊢
  clear hB
  have hs1 : B ≤ w1.heap.size := Nat.le_of_lt (h1.lt B rfl)
  have hF1 : ∀ k, (fun k => k = B) k → B ≤ k := fun k hk => Nat.le_of_eq hk.symm
  generalize (fun k => k = B) = F1 at *
  go_wp2_with fail
  go_loopw [13] (fun i wr => ∃ (k : Nat) (F : Nat → Prop) (acc : List FM), k ≤ n ∧ i = .int .i64 (k : Int) ∧ acc.length = k ∧ loadL (fs.drop k) acc = some l ∧ DiskAt wr F B ⟨acc, false, 0⟩ ∧ (∀ k, F k → B ≤ k) ∧ Below B w wr ∧ B ≤ wr.heap.size)
    (fun i _ => n - (intOf i).toNat)
  case atStart => exact ⟨0, F1, [], Nat.zero_le _, rfl, rfl, HLOAD.out, h1, hF1, hB1, hs1⟩
  case round =>
    obtain ⟨k, F, acc, hk, rfl, hacc, hld, hD, hF, hBr, hsr⟩ := hrel
    by_cases hlt : k < n
    · have hkl : k < fs.length := by have := HN.out; omega
      obtain ⟨g, o, rfl, hgl, hcell⟩ := HP.out (by omega)
      obtain ⟨hx0, x, hx1, hxr⟩ := hcell k hkl
      rw [loadL_step fs k hkl acc] at hld
      have hle := List.getElem_mem hkl
      have hns := hnl _ hle
      have hle2 : fs[k].2.length ≤ 1000000000 := by
        have := len_le_sum hle
        omega
      obtain ⟨nm, hnm⟩ : ∃ nm, nm = fs[k].1 := ⟨_, rfl⟩
      obtain ⟨l1, hl1⟩ : ∃ l1, l1 = fs[k].2 := ⟨_, rfl⟩
      rw [← hnm] at hx0 hld hns
      rw [← hl1] at hxr hld hle2
      obtain ⟨lx, hlx⟩ : ∃ lx, l1.length = lx := ⟨_, rfl⟩
      obtain ⟨Ax, cx, rfl⟩ := hxr.form2 hlx
      have HLX := Lib.hid hlx
      have c0' := (hBr.cell (p := ⟨g, o + k * 2, none⟩) hgl).trans hx0
      have c1' := (hBr.cell (p := ⟨g, o + k * 2 + 1, none⟩) hgl).trans hx1
      have HBX : Hid (∀ W : World, Below (wr.alloc (.cells #[.string nm, .slice Ax lx cx] 62)).heap.size (wr.alloc (.cells #[.string nm, .slice Ax lx cx] 62)) W → W.cell? ⟨wr.heap.size, 0, none⟩ = some (.string nm) ∧ W.cell? ⟨wr.heap.size, 1, none⟩ = some (.slice Ax lx cx)) := Lib.hid fun W hW => by
        have hb := heap_alloc_new wr (.cells #[.string nm, .slice Ax lx cx] 62)
        exact ⟨(hW.cell (p := ⟨wr.heap.size, 0, none⟩) (blk_lt hb)).trans (blk_cell hb 0), (hW.cell (p := ⟨wr.heap.size, 1, none⟩) (blk_lt hb)).trans (blk_cell hb 1)⟩
      have hD1 := hD.al (.cells #[.string nm, .slice Ax lx cx] 62)
      have hB2 : Below B w (wr.alloc (.cells #[.string nm, .slice Ax lx cx] 62)) := hBr.alloc hsr _
      have hs2 : B ≤ (wr.alloc (.cells #[.string nm, .slice Ax lx cx] 62)).heap.size := by simp; omega
      have hbxF : ¬ F wr.heap.size := fun e => Nat.lt_irrefl _ (hD.lt _ e)
      have HACC := Lib.hid hacc
      have i1 : (0 : Int) ≤ (k : Int) := by omega
      have i2 : (k : Int) < (n : Int) := by omega
      obtain ⟨bx, hbx⟩ : ∃ bx, bx = wr.heap.size := ⟨_, rfl⟩
      have HBE := Lib.hid hbx
      clear hcell hx0 hx1 hnm hl1 hle hlx hacc hbx hD hBr hsr
      go_wp2_with fail
      rw [← HBE.out] at HBX hbxF ⊢
      obtain ⟨wa, hwa⟩ : ∃ wa, wa = wr.alloc (.cells #[.string nm, .slice Ax lx cx] 62) := ⟨_, rfl⟩
      rw [← hwa] at HBX hD1 hB2 hs2 ⊢
      clear hwa c0' c1'
      refine (named_any nm _ hns).mono ?_
      rintro e w5 ⟨rfl, rfl⟩
      have hcond : namedB nm = true ∧ placeF acc nm = acc.length := by
        by_cases e : namedB nm = true ∧ placeF acc nm = acc.length
        · exact e
        · rw [if_neg e] at hld; cases hld
      rw [if_pos hcond] at hld
      have hnb := hcond.1
      have hfi : findI acc nm = -1 := by rcases findI_lt acc nm with ⟨_, h⟩ | ⟨h, _⟩; exact h; exact absurd hcond.2 h
      rw [HLX.out] at hld
      have HLD := Lib.hid hld
      clear hcond hld
      rw [hnb]
      have s0 := (HBX.out wa (Below.refl _ _)).1
      have s1 := (HBX.out wa (Below.refl _ _)).2
      go_wp2_with fail
      refine (find_any hD1 nm).mono ?_
      rintro e wq ⟨rfl, hbq⟩
      rw [hfi]
      have hD2 := hD1.below hbq
      have hB3 : Below B w wq := hB2.trans (hbq.mono hs2)
      have hs3 : B ≤ wq.heap.size := Nat.le_trans hs2 hbq.size
      obtain ⟨s0, s1⟩ := HBX.out wq hbq
      have hxr2 : Rd wq wq.heap.size (.slice Ax lx cx) l1 := (hxr.below hB3).more hs3
      have hbxq : bx < wq.heap.size := by rcases Nat.lt_or_ge bx wq.heap.size with h | h; exact h; exact absurd s0 (by simp [World.cell?, Array.getElem?_eq_none (show wq.heap.size ≤ bx from h)])
      clear hD1 hB2 hs2 hbq
      go_wp2_with fail
      have hDd : DiskAt wq.drew F B ⟨acc, false, 0⟩ := hD2
      have hBd : Below B w wq.drew := hB3.drew
      have hsd : B ≤ wq.drew.heap.size := hs3
      have hSd : wq.drew.cell? ⟨bx, 0, none⟩ = some (.string nm) ∧ wq.drew.cell? ⟨bx, 1, none⟩ = some (.slice Ax lx cx) := ⟨s0, s1⟩
      have hxd : Rd wq.drew wq.drew.heap.size (.slice Ax lx cx) l1 := hxr2
      have hbxd : bx < wq.drew.heap.size := hbxq
      refine wp_region_held_drew (S := fun W => W.cell? ⟨bx, 0, none⟩ = some (.string nm) ∧ W.cell? ⟨bx, 1, none⟩ = some (.slice Ax lx cx)) (by kernel_rfl) hSd (fun _ => ?_)
      generalize wq.drew = wd at *
      clear s0 s1 hxr2 hD2 hB3 hs3 hbxq
      have HCL : Hid (Calls Try.prog 31 #[.slice Ax lx cx] wd fun e w' => ∃ v', e = .returned v' ∧ Own w' wd.heap.size v' l1 ∧ Below wd.heap.size wd w') := Lib.hid (clone_any _ _ _ hxd (by omega))
      have HS2 : Hid (∀ W : World, Below wd.heap.size wd W → W.cell? ⟨bx, 0, none⟩ = some (.string nm) ∧ W.cell? ⟨bx, 1, none⟩ = some (.slice Ax lx cx)) := Lib.hid fun W hW => ⟨(hW.cell (p := ⟨bx, 0, none⟩) hbxd).trans hSd.1, (hW.cell (p := ⟨bx, 1, none⟩) hbxd).trans hSd.2⟩
      have HSA : Hid (∀ (W : World) (o : Obj), (W.cell? ⟨bx, 0, none⟩ = some (.string nm) ∧ W.cell? ⟨bx, 1, none⟩ = some (.slice Ax lx cx)) → (W.alloc o).cell? ⟨bx, 0, none⟩ = some (.string nm) ∧ (W.alloc o).cell? ⟨bx, 1, none⟩ = some (.slice Ax lx cx)) := Lib.hid fun W o hW => ⟨(World.cell?_alloc_some W _ o (by rw [hW.1]; rfl)).trans hW.1, (World.cell?_alloc_some W _ o (by rw [hW.2]; rfl)).trans hW.2⟩
      obtain ⟨fv, cv0⟩ : ∃ fv, wd.cell? ⟨B, 0, none⟩ = some fv := by obtain ⟨fv, u, hd, _⟩ := hDd; exact ⟨fv, blk_cell hd 0⟩
      obtain ⟨AV, cV, hfv⟩ : ∃ AV cV, fv = .slice AV k cV := by
        obtain ⟨fv', u, hd, _, hf, _⟩ := hDd
        have := blk_cell hd 0
        rw [this] at cv0
        obtain ⟨AV, cV, e, _⟩ := hf.form
        refine ⟨AV, cV, ?_⟩
        have h1 : fv' = fv := by simpa using cv0
        rw [← h1, e]
        simp only [HACC.out]
      subst hfv
      have HC2 : Hid (∀ W : World, Below wd.heap.size wd W → W.cell? ⟨B, 0, none⟩ = some (.slice AV k cV)) := Lib.hid fun W hW => (hW.cell (p := ⟨B, 0, none⟩) (hDd.lt B hDd.here)).trans cv0
      have HCA : Hid (∀ (W : World) (o : Obj), W.cell? ⟨B, 0, none⟩ = some (.slice AV k cV) → (W.alloc o).cell? ⟨B, 0, none⟩ = some (.slice AV k cV)) := Lib.hid fun W o hW => (World.cell?_alloc_some W _ o (by rw [hW]; rfl)).trans hW
      have HPUSH : Hid (∀ (w2 : World) (v2 : Value), Own w2 wd.heap.size v2 l1 → Below wd.heap.size wd w2 → ∃ A3 c3 w3, (Builtin.append_ #[65, 65] 65 #[.slice AV k cV, .slice (some ⟨w2.heap.size, 0, none⟩) 1 1]).run Try.prog (w2.alloc (.cells #[.string nm, v2, .int .i64 (lx : Int)] 70)) = .ok (.slice A3 (k + 1) c3) w3 ∧
          w3.cell? ⟨B, 0, none⟩ = some (.slice AV k cV) ∧ w3.frozen? ⟨B, 0, none⟩ = false ∧ (w3.cell? ⟨bx, 0, none⟩ = some (.string nm) ∧ w3.cell? ⟨bx, 1, none⟩ = some (.slice Ax lx cx)) ∧ ((w3.setCell ⟨B, 0, none⟩ (.slice A3 (k + 1) c3)).cell? ⟨bx, 0, none⟩ = some (.string nm) ∧ (w3.setCell ⟨B, 0, none⟩ (.slice A3 (k + 1) c3)).cell? ⟨bx, 1, none⟩ = some (.slice Ax lx cx)) ∧
          ∃ F2, DiskAt (w3.setCell ⟨B, 0, none⟩ (.slice A3 (k + 1) c3)) F2 B ⟨acc ++ [⟨nm, l1, lx⟩], false, 0⟩ ∧ (∀ k, F2 k → B ≤ k) ∧ Below B w (w3.setCell ⟨B, 0, none⟩ (.slice A3 (k + 1) c3)) ∧ B ≤ (w3.setCell ⟨B, 0, none⟩ (.slice A3 (k + 1) c3)).heap.size) := Lib.hid fun w2 v2 ho2 hb2 => by
        obtain ⟨fv, A3, c3, w3, hcv, hrun, e0, e1, hDn, hcn⟩ := hDd.push2 nm l1 v2 hb2 ho2 (by show acc.length ≤ 1000; have := HACC.out; omega) 65 65 Try.underlying65
        obtain rfl : Value.slice AV k cV = fv := by rw [cv0] at hcv; simpa using hcv
        have e9 : ((⟨acc, false, 0⟩ : DM).files).length + 1 = k + 1 := by show acc.length + 1 = k + 1; rw [HACC.out]
        rw [HLX.out, e9] at hrun
        rw [e9] at hDn hcn
        have hBn : B ≠ bx := fun e => hbxF (e ▸ hDd.here)
        have hbox : ∀ i u, wd.cell? ⟨bx, i, none⟩ = some u → (w3.setCell ⟨B, 0, none⟩ (.slice A3 (k + 1) c3)).cell? ⟨bx, i, none⟩ = some u := fun i u hu => (World.cell?_of_block (a := ⟨bx, i, none⟩) (hcn.block bx hbxd hbxF)).trans hu
        have hbox3 : ∀ i u, wd.cell? ⟨bx, i, none⟩ = some u → w3.cell? ⟨bx, i, none⟩ = some u := fun i u hu => by
          have := hbox i u hu
          rwa [World.cell?_setCell_far w3 _ _ _ hBn] at this
        have h9 := hDn
        rw [HLX.out] at h9
        exact ⟨A3, c3, w3, hrun, e0, e1, ⟨hbox3 0 _ hSd.1, hbox3 1 _ hSd.2⟩, ⟨hbox 0 _ hSd.1, hbox 1 _ hSd.2⟩, _, h9, Ext.ge hF hsd, hBd.trans (hcn.below hF hsd), Nat.le_trans hsd hcn.size⟩
      clear hxd hDd hBd hsd
      refine wpAnyH_take (i := 0) (oi := _) (v := ?_) rfl (by kernel_rfl) (by kernel_rfl) (by kernel_rfl) (fun _ _ _ h => h) (Or.inl ⟨by rfl, ?_⟩) hSd ?_
      rotate_left
      · intro W hSW
        obtain ⟨sw0, sw1⟩ := hSW
        try go_simp
        all_goals with_reducible rfl
      simp only [Act.put, List.setIfInBounds_toArray, List.set_cons_zero, List.set_cons_succ, List.getElem_toArray, List.getElem_cons_zero, List.getElem_cons_succ]
      refine wpAnyH_take (i := 1) (oi := _) (v := ?_) rfl (by kernel_rfl) (by kernel_rfl) (by kernel_rfl) (fun _ _ _ h => h) (Or.inl ⟨by rfl, ?_⟩) hSd ?_
      rotate_left
      · intro W hSW
        obtain ⟨sw0, sw1⟩ := hSW
        try go_simp
        all_goals with_reducible rfl
      simp only [Act.put, List.setIfInBounds_toArray, List.set_cons_zero, List.set_cons_succ, List.getElem_toArray, List.getElem_cons_zero, List.getElem_cons_succ]
      refine wpAnyH_take (i := 2) (oi := _) (v := ?_) rfl (by kernel_rfl) (by kernel_rfl) (by kernel_rfl) (fun _ _ _ h => h) (Or.inl ⟨by rfl, ?_⟩) hSd ?_
      rotate_left
      · intro W hSW
        obtain ⟨sw0, sw1⟩ := hSW
        try go_simp
        all_goals with_reducible rfl
      simp only [Act.put, List.setIfInBounds_toArray, List.set_cons_zero, List.set_cons_succ, List.getElem_toArray, List.getElem_cons_zero, List.getElem_cons_succ]
      refine wpAnyH_take (i := 3) (oi := _) (v := ?_) rfl (by kernel_rfl) (by kernel_rfl) (by kernel_rfl) (fun _ _ _ h => h) (Or.inl ⟨by rfl, ?_⟩) hSd ?_
      rotate_left
      · intro W hSW
        obtain ⟨sw0, sw1⟩ := hSW
        try go_simp
        all_goals with_reducible rfl
      simp only [Act.put, List.setIfInBounds_toArray, List.set_cons_zero, List.set_cons_succ, List.getElem_toArray, List.getElem_cons_zero, List.getElem_cons_succ]
      refine wpAnyH_take (i := 5) (oi := _) (v := ?_) rfl (by kernel_rfl) (by kernel_rfl) (by kernel_rfl) (fun _ _ _ h => h) (Or.inl ⟨by rfl, ?_⟩) hSd ?_
      rotate_left
      · intro W hSW
        obtain ⟨sw0, sw1⟩ := hSW
        try go_simp
        all_goals with_reducible rfl
      simp only [Act.put, List.setIfInBounds_toArray, List.set_cons_zero, List.set_cons_succ, List.getElem_toArray, List.getElem_cons_zero, List.getElem_cons_succ]
      refine wpAnyH_take (i := 6) (oi := _) (v := ?_) rfl (by kernel_rfl) (by kernel_rfl) (by kernel_rfl) (fun _ _ _ h => h) (Or.inl ⟨by rfl, ?_⟩) hSd ?_
      rotate_left
      · intro W hSW
        obtain ⟨sw0, sw1⟩ := hSW
        try go_simp
        all_goals with_reducible rfl
      simp only [Act.put, List.setIfInBounds_toArray, List.set_cons_zero, List.set_cons_succ, List.getElem_toArray, List.getElem_cons_zero, List.getElem_cons_succ]
      refine wpAnyH_take (i := 7) (oi := _) (v := ?_) rfl (by kernel_rfl) (by kernel_rfl) (by kernel_rfl) (fun _ _ _ h => h) (Or.inl ⟨by rfl, ?_⟩) hSd ?_
      rotate_left
      · intro W hSW
        obtain ⟨sw0, sw1⟩ := hSW
        try go_simp
        all_goals with_reducible rfl
      simp only [Act.put, List.setIfInBounds_toArray, List.set_cons_zero, List.set_cons_succ, List.getElem_toArray, List.getElem_cons_zero, List.getElem_cons_succ]
      refine wpAnyH_take (i := 8) (oi := _) (v := ?_) rfl (by kernel_rfl) (by kernel_rfl) (by kernel_rfl) (fun _ _ _ h => h) (Or.inl ⟨by rfl, ?_⟩) hSd ?_
      rotate_left
      · intro W hSW
        obtain ⟨sw0, sw1⟩ := hSW
        try go_simp
        all_goals with_reducible rfl
      simp only [Act.put, List.setIfInBounds_toArray, List.set_cons_zero, List.set_cons_succ, List.getElem_toArray, List.getElem_cons_zero, List.getElem_cons_succ]
      refine wpAnyH_take (i := 10) (oi := _) (v := ?_) rfl (by kernel_rfl) (by kernel_rfl) (by kernel_rfl) (fun _ _ _ h => h) (Or.inl ⟨by rfl, ?_⟩) hSd ?_
      rotate_left
      · intro W hSW
        obtain ⟨sw0, sw1⟩ := hSW
        try go_simp
        all_goals with_reducible rfl
      simp only [Act.put, List.setIfInBounds_toArray, List.set_cons_zero, List.set_cons_succ, List.getElem_toArray, List.getElem_cons_zero, List.getElem_cons_succ]
      refine wpAnyH_take (i := 11) (oi := _) (v := ?_) rfl (by kernel_rfl) (by kernel_rfl) (by kernel_rfl) (fun _ _ _ h => h) (Or.inl ⟨by rfl, ?_⟩) hSd ?_
      rotate_left
      · intro W hSW
        obtain ⟨sw0, sw1⟩ := hSW
        try go_simp
        all_goals with_reducible rfl
      simp only [Act.put, List.setIfInBounds_toArray, List.set_cons_zero, List.set_cons_succ, List.getElem_toArray, List.getElem_cons_zero, List.getElem_cons_succ]
      refine wpAnyH_take (i := 12) (oi := _) (v := ?_) rfl (by kernel_rfl) (by kernel_rfl) (by kernel_rfl) (fun _ _ _ h => h) (Or.inl ⟨by rfl, ?_⟩) hSd ?_
      rotate_left
      · intro W hSW
        obtain ⟨sw0, sw1⟩ := hSW
        try go_simp
        all_goals with_reducible rfl
      simp only [Act.put, List.setIfInBounds_toArray, List.set_cons_zero, List.set_cons_succ, List.getElem_toArray, List.getElem_cons_zero, List.getElem_cons_succ]
      refine wpAnyH_ready (rs := [4, 9]) (by kernel_rfl) (by simp) (AllReadyH.cons rfl (fun K hK => ?_) (AllReadyH.cons rfl (fun K hK => ?_) AllReadyH.nil))
      · go_simp
        refine hK.out _ _ hSd (fun _ => ?_)
        clear hK K
        try simp only [Act.put, List.setIfInBounds_toArray, List.set_cons_zero, List.set_cons_succ, List.getElem_toArray, List.getElem_cons_zero, List.getElem_cons_succ]
        refine wpAnyH_ready (rs := [9]) (by kernel_rfl) (by simp) (AllReadyH.cons rfl (fun K hK => ?_) AllReadyH.nil)
        go_simp
        refine (HCL.out).mono ?_
        rintro e w2 ⟨v2, rfl, ho2, hb2⟩
        try dsimp only
        have hS2 := HS2.out _ hb2
        have c2 := HC2.out _ hb2
        refine hK.out _ _ hS2 (fun _ => ?_)
        clear hK K
        try simp only [Act.put, List.setIfInBounds_toArray, List.set_cons_zero, List.set_cons_succ, List.getElem_toArray, List.getElem_cons_zero, List.getElem_cons_succ]
        obtain ⟨A2, cc2, hv2⟩ := ho2.form' HLX.out
        subst hv2
        obtain ⟨A3, c3, w3, hrun, e0, e1, hS3, hS4, hfin⟩ := HPUSH.out _ _ ho2 hb2
        refine wpAnyH_take (i := 13) (oi := _) (v := ?_) rfl (by kernel_rfl) (by kernel_rfl) (by kernel_rfl) (fun _ _ _ h => h) (Or.inl ⟨by rfl, ?_⟩) hS2 ?_
        rotate_left
        · intro W hSW
          obtain ⟨sw0, sw1⟩ := hSW
          try go_simp
          all_goals with_reducible rfl
        simp only [Act.put, List.setIfInBounds_toArray, List.set_cons_zero, List.set_cons_succ, List.getElem_toArray, List.getElem_cons_zero, List.getElem_cons_succ]
        refine wpAnyH_ready (rs := [14]) (by kernel_rfl) (by simp) (AllReadyH.cons rfl (fun K hK => ?_) AllReadyH.nil)
        go_simp
        refine hK.out _ _ (HSA.out _ _ hS2) (fun _ => ?_)
        clear hK K
        try simp only [Act.put, List.setIfInBounds_toArray, List.set_cons_zero, List.set_cons_succ, List.getElem_toArray, List.getElem_cons_zero, List.getElem_cons_succ]
        have c2a := HCA.out _ (.cells #[.string nm, .slice A2 lx cc2, .int .i64 (lx : Int)] 70) c2
        refine wpAnyH_ready (rs := [15]) (by kernel_rfl) (by simp) (AllReadyH.cons rfl (fun K hK => ?_) AllReadyH.nil)
        rw [if_pos (by rfl)]
        refine wp_append_run (.tmp 32) (.tmp 42) _ rfl rfl rfl hrun ?_
        refine hK.out _ _ hS3 (fun _ => ?_)
        clear hK K
        try simp only [Act.put, List.setIfInBounds_toArray, List.set_cons_zero, List.set_cons_succ, List.getElem_toArray, List.getElem_cons_zero, List.getElem_cons_succ]
        refine wpAnyH_take (i := 16) (oi := _) (v := ?_) rfl (by kernel_rfl) (by kernel_rfl) (by kernel_rfl) (fun _ _ _ h => h) (Or.inl ⟨by rfl, ?_⟩) hS3 ?_
        rotate_left
        · intro W hSW
          obtain ⟨sw0, sw1⟩ := hSW
          try go_simp
          all_goals with_reducible rfl
        simp only [Act.put, List.setIfInBounds_toArray, List.set_cons_zero, List.set_cons_succ, List.getElem_toArray, List.getElem_cons_zero, List.getElem_cons_succ]
        refine wpAnyH_take (i := 17) (oi := _) (v := ?_) rfl (by kernel_rfl) (by kernel_rfl) (by kernel_rfl) (fun _ _ _ h => h) (Or.inl ⟨by rfl, ?_⟩) hS3 ?_
        rotate_left
        · intro W hSW
          obtain ⟨sw0, sw1⟩ := hSW
          try go_simp
          all_goals with_reducible rfl
        simp only [Act.put, List.setIfInBounds_toArray, List.set_cons_zero, List.set_cons_succ, List.getElem_toArray, List.getElem_cons_zero, List.getElem_cons_succ]
        refine wpAnyH_ready (rs := [18]) (by kernel_rfl) (by simp) (AllReadyH.cons rfl (fun K hK => ?_) AllReadyH.nil)
        go_simp
        refine hK.out _ _ hS4 (fun _ => ?_)
        clear hK K
        try simp only [Act.put, List.setIfInBounds_toArray, List.set_cons_zero, List.set_cons_succ, List.getElem_toArray, List.getElem_cons_zero, List.getElem_cons_succ]
        refine wpAnyH_done (by kernel_rfl) ?_ _
        have HX := Lib.hid hfin
        clear hfin hrun e0 e1 ho2 hb2
        go_wp2_with fail
        obtain ⟨F2, hD9, hF9, hB9, hs9⟩ := HX.out; exact ⟨⟨k + 1, F2, _, by omega, by go_num, by simp [HACC.out], HLD.out, hD9, hF9, hB9, hs9⟩, by simp [intOf]; omega⟩
      · go_simp
        refine (HCL.out).mono ?_
        rintro e w2 ⟨v2, rfl, ho2, hb2⟩
        try dsimp only
        have hS2 := HS2.out _ hb2
        have c2 := HC2.out _ hb2
        refine hK.out _ _ hS2 (fun _ => ?_)
        clear hK K
        try simp only [Act.put, List.setIfInBounds_toArray, List.set_cons_zero, List.set_cons_succ, List.getElem_toArray, List.getElem_cons_zero, List.getElem_cons_succ]
        obtain ⟨A2, cc2, hv2⟩ := ho2.form' HLX.out
        subst hv2
        obtain ⟨A3, c3, w3, hrun, e0, e1, hS3, hS4, hfin⟩ := HPUSH.out _ _ ho2 hb2
        refine wpAnyH_take (i := 13) (oi := _) (v := ?_) rfl (by kernel_rfl) (by kernel_rfl) (by kernel_rfl) (fun _ _ _ h => h) (Or.inl ⟨by rfl, ?_⟩) hS2 ?_
        rotate_left
        · intro W hSW
          obtain ⟨sw0, sw1⟩ := hSW
          try go_simp
          all_goals with_reducible rfl
        simp only [Act.put, List.setIfInBounds_toArray, List.set_cons_zero, List.set_cons_succ, List.getElem_toArray, List.getElem_cons_zero, List.getElem_cons_succ]
        refine wpAnyH_ready (rs := [4, 14]) (by kernel_rfl) (by simp) (AllReadyH.cons rfl (fun K hK => ?_) (AllReadyH.cons rfl (fun K hK => ?_) AllReadyH.nil))
        · go_simp
          refine hK.out _ _ hS2 (fun _ => ?_)
          clear hK K
          try simp only [Act.put, List.setIfInBounds_toArray, List.set_cons_zero, List.set_cons_succ, List.getElem_toArray, List.getElem_cons_zero, List.getElem_cons_succ]
          refine wpAnyH_ready (rs := [14]) (by kernel_rfl) (by simp) (AllReadyH.cons rfl (fun K hK => ?_) AllReadyH.nil)
          go_simp
          refine hK.out _ _ (HSA.out _ _ hS2) (fun _ => ?_)
          clear hK K
          try simp only [Act.put, List.setIfInBounds_toArray, List.set_cons_zero, List.set_cons_succ, List.getElem_toArray, List.getElem_cons_zero, List.getElem_cons_succ]
          have c2a := HCA.out _ (.cells #[.string nm, .slice A2 lx cc2, .int .i64 (lx : Int)] 70) c2
          refine wpAnyH_ready (rs := [15]) (by kernel_rfl) (by simp) (AllReadyH.cons rfl (fun K hK => ?_) AllReadyH.nil)
          rw [if_pos (by rfl)]
          refine wp_append_run (.tmp 32) (.tmp 42) _ rfl rfl rfl hrun ?_
          refine hK.out _ _ hS3 (fun _ => ?_)
          clear hK K
          try simp only [Act.put, List.setIfInBounds_toArray, List.set_cons_zero, List.set_cons_succ, List.getElem_toArray, List.getElem_cons_zero, List.getElem_cons_succ]
          refine wpAnyH_take (i := 16) (oi := _) (v := ?_) rfl (by kernel_rfl) (by kernel_rfl) (by kernel_rfl) (fun _ _ _ h => h) (Or.inl ⟨by rfl, ?_⟩) hS3 ?_
          rotate_left
          · intro W hSW
            obtain ⟨sw0, sw1⟩ := hSW
            try go_simp
            all_goals with_reducible rfl
          simp only [Act.put, List.setIfInBounds_toArray, List.set_cons_zero, List.set_cons_succ, List.getElem_toArray, List.getElem_cons_zero, List.getElem_cons_succ]
          refine wpAnyH_take (i := 17) (oi := _) (v := ?_) rfl (by kernel_rfl) (by kernel_rfl) (by kernel_rfl) (fun _ _ _ h => h) (Or.inl ⟨by rfl, ?_⟩) hS3 ?_
          rotate_left
          · intro W hSW
            obtain ⟨sw0, sw1⟩ := hSW
            try go_simp
            all_goals with_reducible rfl
          simp only [Act.put, List.setIfInBounds_toArray, List.set_cons_zero, List.set_cons_succ, List.getElem_toArray, List.getElem_cons_zero, List.getElem_cons_succ]
          refine wpAnyH_ready (rs := [18]) (by kernel_rfl) (by simp) (AllReadyH.cons rfl (fun K hK => ?_) AllReadyH.nil)
          go_simp
          refine hK.out _ _ hS4 (fun _ => ?_)
          clear hK K
          try simp only [Act.put, List.setIfInBounds_toArray, List.set_cons_zero, List.set_cons_succ, List.getElem_toArray, List.getElem_cons_zero, List.getElem_cons_succ]
          refine wpAnyH_done (by kernel_rfl) ?_ _
          have HX := Lib.hid hfin
          clear hfin hrun e0 e1 ho2 hb2
          go_wp2_with fail
          obtain ⟨F2, hD9, hF9, hB9, hs9⟩ := HX.out; exact ⟨⟨k + 1, F2, _, by omega, by go_num, by simp [HACC.out], HLD.out, hD9, hF9, hB9, hs9⟩, by simp [intOf]; omega⟩
        · go_simp
          refine hK.out _ _ (HSA.out _ _ hS2) (fun _ => ?_)
          clear hK K
          try simp only [Act.put, List.setIfInBounds_toArray, List.set_cons_zero, List.set_cons_succ, List.getElem_toArray, List.getElem_cons_zero, List.getElem_cons_succ]
          have c2a := HCA.out _ (.cells #[.string nm, .slice A2 lx cc2, .int .i64 (lx : Int)] 70) c2
          refine wpAnyH_ready (rs := [4]) (by kernel_rfl) (by simp) (AllReadyH.cons rfl (fun K hK => ?_) AllReadyH.nil)
          go_simp
          refine hK.out _ _ (HSA.out _ _ hS2) (fun _ => ?_)
          clear hK K
          try simp only [Act.put, List.setIfInBounds_toArray, List.set_cons_zero, List.set_cons_succ, List.getElem_toArray, List.getElem_cons_zero, List.getElem_cons_succ]
          refine wpAnyH_ready (rs := [15]) (by kernel_rfl) (by simp) (AllReadyH.cons rfl (fun K hK => ?_) AllReadyH.nil)
          rw [if_pos (by rfl)]
          refine wp_append_run (.tmp 32) (.tmp 42) _ rfl rfl rfl hrun ?_
          refine hK.out _ _ hS3 (fun _ => ?_)
          clear hK K
          try simp only [Act.put, List.setIfInBounds_toArray, List.set_cons_zero, List.set_cons_succ, List.getElem_toArray, List.getElem_cons_zero, List.getElem_cons_succ]
          refine wpAnyH_take (i := 16) (oi := _) (v := ?_) rfl (by kernel_rfl) (by kernel_rfl) (by kernel_rfl) (fun _ _ _ h => h) (Or.inl ⟨by rfl, ?_⟩) hS3 ?_
          rotate_left
          · intro W hSW
            obtain ⟨sw0, sw1⟩ := hSW
            try go_simp
            all_goals with_reducible rfl
          simp only [Act.put, List.setIfInBounds_toArray, List.set_cons_zero, List.set_cons_succ, List.getElem_toArray, List.getElem_cons_zero, List.getElem_cons_succ]
          refine wpAnyH_take (i := 17) (oi := _) (v := ?_) rfl (by kernel_rfl) (by kernel_rfl) (by kernel_rfl) (fun _ _ _ h => h) (Or.inl ⟨by rfl, ?_⟩) hS3 ?_
          rotate_left
          · intro W hSW
            obtain ⟨sw0, sw1⟩ := hSW
            try go_simp
            all_goals with_reducible rfl
          simp only [Act.put, List.setIfInBounds_toArray, List.set_cons_zero, List.set_cons_succ, List.getElem_toArray, List.getElem_cons_zero, List.getElem_cons_succ]
          refine wpAnyH_ready (rs := [18]) (by kernel_rfl) (by simp) (AllReadyH.cons rfl (fun K hK => ?_) AllReadyH.nil)
          go_simp
          refine hK.out _ _ hS4 (fun _ => ?_)
          clear hK K
          try simp only [Act.put, List.setIfInBounds_toArray, List.set_cons_zero, List.set_cons_succ, List.getElem_toArray, List.getElem_cons_zero, List.getElem_cons_succ]
          refine wpAnyH_done (by kernel_rfl) ?_ _
          have HX := Lib.hid hfin
          clear hfin hrun e0 e1 ho2 hb2
          go_wp2_with fail
          obtain ⟨F2, hD9, hF9, hB9, hs9⟩ := HX.out; exact ⟨⟨k + 1, F2, _, by omega, by go_num, by simp [HACC.out], HLD.out, hD9, hF9, hB9, hs9⟩, by simp [intOf]; omega⟩
    · obtain rfl : k = n := by omega
      have i2 : ¬ (k : Int) < (k : Int) := by omega
      have hfin : DiskFrom wr B B ⟨l, false, 0⟩ ∧ Below B w wr := by
        rw [List.drop_of_length_le (by have := HN.out; omega)] at hld
        simp only [loadL, Option.some.injEq] at hld
        subst hld
        exact ⟨⟨F, hD, hF⟩, hBr⟩
      have HX := Lib.hid hfin
      clear hfin hD hF hBr hld
      go_wp2_with fail
      go_ret2
      exact ⟨B, rfl, by rw [← HB.out]; exact HX.out⟩

set_option maxHeartbeats 4000000 in
theorem load_none (w : World) (v : Value) (fs : List (ByteArray × List UInt8)) (hr : RdFs w w.heap.size v fs) (hlen : (fs.map fun f => f.2.length).sum ≤ 1000000000) (hnl : ∀ f ∈ fs, f.1.size ≤ maxLen) (hload : loadL fs [] = none ∨ 16 < fs.length) :
    Calls Try.prog 9 #[v] w fun e w' => e = .returned (.tuple #[.pointer none, .int .i64 50]) ∧ Below w.heap.size w w' := by
  obtain ⟨A, c, rfl, hc, hcm, hp⟩ := hr
  unfold maxLen at hcm
  obtain ⟨n, hn⟩ : ∃ n, n = fs.length := ⟨_, rfl⟩
  rw [← hn] at hc ⊢
  obtain ⟨B, hB⟩ : ∃ B, B = w.heap.size := ⟨_, rfl⟩
  rw [← hB] at hp
  have HP := Lib.hid hp
  have HN := Lib.hid hn
  have HB := Lib.hid hB
  have HLOAD := Lib.hid hload
  clear hn hp hload
  by_cases hbig : 16 < n
  · have k16 : (16 : Int) < (n : Int) := by omega
    go_enter Try.func9, Try.ntmps9
    go_wp2_with fail
    go_ret2
    exact ⟨rfl, Below.refl _ _⟩
  have hK1000 : n ≤ 1000 := by omega
  have HLOAD := Lib.hid (HLOAD.out.resolve_right (by rw [← HN.out]; exact hbig))
  have k16 : (n : Int) ≤ 16 := by omega
  go_enter Try.func9, Try.ntmps9
  go_wp2_with fail
  refine (new_any _ (fun _ => False)).mono ?_
  rintro e w1 ⟨rfl, h1, hB1⟩
  rw [← hB] at h1 hB1 ⊢
  clear hB
  have hs1 : B ≤ w1.heap.size := Nat.le_of_lt (h1.lt B rfl)
  have hF1 : ∀ k, (fun k => k = B) k → B ≤ k := fun k hk => Nat.le_of_eq hk.symm
  generalize (fun k => k = B) = F1 at *
  go_wp2_with fail
  go_loopw [13] (fun i wr => ∃ (k : Nat) (F : Nat → Prop) (acc : List FM), k ≤ n ∧ i = .int .i64 (k : Int) ∧ acc.length = k ∧ loadL (fs.drop k) acc = none ∧ DiskAt wr F B ⟨acc, false, 0⟩ ∧ (∀ k, F k → B ≤ k) ∧ Below B w wr ∧ B ≤ wr.heap.size)
    (fun i _ => n - (intOf i).toNat)
  case atStart => exact ⟨0, F1, [], Nat.zero_le _, rfl, rfl, HLOAD.out, h1, hF1, hB1, hs1⟩
  case round =>
    obtain ⟨k, F, acc, hk, rfl, hacc, hld, hD, hF, hBr, hsr⟩ := hrel
    by_cases hlt : k < n
    · have hkl : k < fs.length := by have := HN.out; omega
      obtain ⟨g, o, rfl, hgl, hcell⟩ := HP.out (by omega)
      obtain ⟨hx0, x, hx1, hxr⟩ := hcell k hkl
      rw [loadL_step fs k hkl acc] at hld
      have hle := List.getElem_mem hkl
      have hns := hnl _ hle
      have hle2 : fs[k].2.length ≤ 1000000000 := by
        have := len_le_sum hle
        omega
      obtain ⟨nm, hnm⟩ : ∃ nm, nm = fs[k].1 := ⟨_, rfl⟩
      obtain ⟨l1, hl1⟩ : ∃ l1, l1 = fs[k].2 := ⟨_, rfl⟩
      rw [← hnm] at hx0 hld hns
      rw [← hl1] at hxr hld hle2
      obtain ⟨lx, hlx⟩ : ∃ lx, l1.length = lx := ⟨_, rfl⟩
      obtain ⟨Ax, cx, rfl⟩ := hxr.form2 hlx
      have HLX := Lib.hid hlx
      have c0' := (hBr.cell (p := ⟨g, o + k * 2, none⟩) hgl).trans hx0
      have c1' := (hBr.cell (p := ⟨g, o + k * 2 + 1, none⟩) hgl).trans hx1
      have HBX : Hid (∀ W : World, Below (wr.alloc (.cells #[.string nm, .slice Ax lx cx] 62)).heap.size (wr.alloc (.cells #[.string nm, .slice Ax lx cx] 62)) W → W.cell? ⟨wr.heap.size, 0, none⟩ = some (.string nm) ∧ W.cell? ⟨wr.heap.size, 1, none⟩ = some (.slice Ax lx cx)) := Lib.hid fun W hW => by
        have hb := heap_alloc_new wr (.cells #[.string nm, .slice Ax lx cx] 62)
        exact ⟨(hW.cell (p := ⟨wr.heap.size, 0, none⟩) (blk_lt hb)).trans (blk_cell hb 0), (hW.cell (p := ⟨wr.heap.size, 1, none⟩) (blk_lt hb)).trans (blk_cell hb 1)⟩
      have hD1 := hD.al (.cells #[.string nm, .slice Ax lx cx] 62)
      have hB2 : Below B w (wr.alloc (.cells #[.string nm, .slice Ax lx cx] 62)) := hBr.alloc hsr _
      have hs2 : B ≤ (wr.alloc (.cells #[.string nm, .slice Ax lx cx] 62)).heap.size := by simp; omega
      have hbxF : ¬ F wr.heap.size := fun e => Nat.lt_irrefl _ (hD.lt _ e)
      have HACC := Lib.hid hacc
      have i1 : (0 : Int) ≤ (k : Int) := by omega
      have i2 : (k : Int) < (n : Int) := by omega
      obtain ⟨bx, hbx⟩ : ∃ bx, bx = wr.heap.size := ⟨_, rfl⟩
      have HBE := Lib.hid hbx
      clear hcell hx0 hx1 hnm hl1 hle hlx hacc hbx hD hBr hsr
      go_wp2_with fail
      rw [← HBE.out] at HBX hbxF ⊢
      obtain ⟨wa, hwa⟩ : ∃ wa, wa = wr.alloc (.cells #[.string nm, .slice Ax lx cx] 62) := ⟨_, rfl⟩
      rw [← hwa] at HBX hD1 hB2 hs2 ⊢
      clear hwa c0' c1'
      refine (named_any nm _ hns).mono ?_
      rintro e w5 ⟨rfl, rfl⟩
      by_cases hcond : namedB nm = true ∧ placeF acc nm = acc.length
      · rw [if_pos hcond] at hld
        have hnb := hcond.1
        have hfi : findI acc nm = -1 := by rcases findI_lt acc nm with ⟨_, h⟩ | ⟨h, _⟩; exact h; exact absurd hcond.2 h
        rw [HLX.out] at hld
        have HLD := Lib.hid hld
        clear hcond hld
        rw [hnb]
        have s0 := (HBX.out wa (Below.refl _ _)).1
        have s1 := (HBX.out wa (Below.refl _ _)).2
        go_wp2_with fail
        refine (find_any hD1 nm).mono ?_
        rintro e wq ⟨rfl, hbq⟩
        rw [hfi]
        have hD2 := hD1.below hbq
        have hB3 : Below B w wq := hB2.trans (hbq.mono hs2)
        have hs3 : B ≤ wq.heap.size := Nat.le_trans hs2 hbq.size
        obtain ⟨s0, s1⟩ := HBX.out wq hbq
        have hxr2 : Rd wq wq.heap.size (.slice Ax lx cx) l1 := (hxr.below hB3).more hs3
        have hbxq : bx < wq.heap.size := by rcases Nat.lt_or_ge bx wq.heap.size with h | h; exact h; exact absurd s0 (by simp [World.cell?, Array.getElem?_eq_none (show wq.heap.size ≤ bx from h)])
        clear hD1 hB2 hs2 hbq
        go_wp2_with fail
        have hDd : DiskAt wq.drew F B ⟨acc, false, 0⟩ := hD2
        have hBd : Below B w wq.drew := hB3.drew
        have hsd : B ≤ wq.drew.heap.size := hs3
        have hSd : wq.drew.cell? ⟨bx, 0, none⟩ = some (.string nm) ∧ wq.drew.cell? ⟨bx, 1, none⟩ = some (.slice Ax lx cx) := ⟨s0, s1⟩
        have hxd : Rd wq.drew wq.drew.heap.size (.slice Ax lx cx) l1 := hxr2
        have hbxd : bx < wq.drew.heap.size := hbxq
        refine wp_region_held_drew (S := fun W => W.cell? ⟨bx, 0, none⟩ = some (.string nm) ∧ W.cell? ⟨bx, 1, none⟩ = some (.slice Ax lx cx)) (by kernel_rfl) hSd (fun _ => ?_)
        generalize wq.drew = wd at *
        clear s0 s1 hxr2 hD2 hB3 hs3 hbxq
        have HCL : Hid (Calls Try.prog 31 #[.slice Ax lx cx] wd fun e w' => ∃ v', e = .returned v' ∧ Own w' wd.heap.size v' l1 ∧ Below wd.heap.size wd w') := Lib.hid (clone_any _ _ _ hxd (by omega))
        have HS2 : Hid (∀ W : World, Below wd.heap.size wd W → W.cell? ⟨bx, 0, none⟩ = some (.string nm) ∧ W.cell? ⟨bx, 1, none⟩ = some (.slice Ax lx cx)) := Lib.hid fun W hW => ⟨(hW.cell (p := ⟨bx, 0, none⟩) hbxd).trans hSd.1, (hW.cell (p := ⟨bx, 1, none⟩) hbxd).trans hSd.2⟩
        have HSA : Hid (∀ (W : World) (o : Obj), (W.cell? ⟨bx, 0, none⟩ = some (.string nm) ∧ W.cell? ⟨bx, 1, none⟩ = some (.slice Ax lx cx)) → (W.alloc o).cell? ⟨bx, 0, none⟩ = some (.string nm) ∧ (W.alloc o).cell? ⟨bx, 1, none⟩ = some (.slice Ax lx cx)) := Lib.hid fun W o hW => ⟨(World.cell?_alloc_some W _ o (by rw [hW.1]; rfl)).trans hW.1, (World.cell?_alloc_some W _ o (by rw [hW.2]; rfl)).trans hW.2⟩
        obtain ⟨fv, cv0⟩ : ∃ fv, wd.cell? ⟨B, 0, none⟩ = some fv := by obtain ⟨fv, u, hd, _⟩ := hDd; exact ⟨fv, blk_cell hd 0⟩
        obtain ⟨AV, cV, hfv⟩ : ∃ AV cV, fv = .slice AV k cV := by
          obtain ⟨fv', u, hd, _, hf, _⟩ := hDd
          have := blk_cell hd 0
          rw [this] at cv0
          obtain ⟨AV, cV, e, _⟩ := hf.form
          refine ⟨AV, cV, ?_⟩
          have h1 : fv' = fv := by simpa using cv0
          rw [← h1, e]
          simp only [HACC.out]
        subst hfv
        have HC2 : Hid (∀ W : World, Below wd.heap.size wd W → W.cell? ⟨B, 0, none⟩ = some (.slice AV k cV)) := Lib.hid fun W hW => (hW.cell (p := ⟨B, 0, none⟩) (hDd.lt B hDd.here)).trans cv0
        have HCA : Hid (∀ (W : World) (o : Obj), W.cell? ⟨B, 0, none⟩ = some (.slice AV k cV) → (W.alloc o).cell? ⟨B, 0, none⟩ = some (.slice AV k cV)) := Lib.hid fun W o hW => (World.cell?_alloc_some W _ o (by rw [hW]; rfl)).trans hW
        have HPUSH : Hid (∀ (w2 : World) (v2 : Value), Own w2 wd.heap.size v2 l1 → Below wd.heap.size wd w2 → ∃ A3 c3 w3, (Builtin.append_ #[65, 65] 65 #[.slice AV k cV, .slice (some ⟨w2.heap.size, 0, none⟩) 1 1]).run Try.prog (w2.alloc (.cells #[.string nm, v2, .int .i64 (lx : Int)] 70)) = .ok (.slice A3 (k + 1) c3) w3 ∧
            w3.cell? ⟨B, 0, none⟩ = some (.slice AV k cV) ∧ w3.frozen? ⟨B, 0, none⟩ = false ∧ (w3.cell? ⟨bx, 0, none⟩ = some (.string nm) ∧ w3.cell? ⟨bx, 1, none⟩ = some (.slice Ax lx cx)) ∧ ((w3.setCell ⟨B, 0, none⟩ (.slice A3 (k + 1) c3)).cell? ⟨bx, 0, none⟩ = some (.string nm) ∧ (w3.setCell ⟨B, 0, none⟩ (.slice A3 (k + 1) c3)).cell? ⟨bx, 1, none⟩ = some (.slice Ax lx cx)) ∧
            ∃ F2, DiskAt (w3.setCell ⟨B, 0, none⟩ (.slice A3 (k + 1) c3)) F2 B ⟨acc ++ [⟨nm, l1, lx⟩], false, 0⟩ ∧ (∀ k, F2 k → B ≤ k) ∧ Below B w (w3.setCell ⟨B, 0, none⟩ (.slice A3 (k + 1) c3)) ∧ B ≤ (w3.setCell ⟨B, 0, none⟩ (.slice A3 (k + 1) c3)).heap.size) := Lib.hid fun w2 v2 ho2 hb2 => by
          obtain ⟨fv, A3, c3, w3, hcv, hrun, e0, e1, hDn, hcn⟩ := hDd.push2 nm l1 v2 hb2 ho2 (by show acc.length ≤ 1000; have := HACC.out; have := hK1000; omega) 65 65 Try.underlying65
          obtain rfl : Value.slice AV k cV = fv := by rw [cv0] at hcv; simpa using hcv
          have e9 : ((⟨acc, false, 0⟩ : DM).files).length + 1 = k + 1 := by show acc.length + 1 = k + 1; rw [HACC.out]
          rw [HLX.out, e9] at hrun
          rw [e9] at hDn hcn
          have hBn : B ≠ bx := fun e => hbxF (e ▸ hDd.here)
          have hbox : ∀ i u, wd.cell? ⟨bx, i, none⟩ = some u → (w3.setCell ⟨B, 0, none⟩ (.slice A3 (k + 1) c3)).cell? ⟨bx, i, none⟩ = some u := fun i u hu => (World.cell?_of_block (a := ⟨bx, i, none⟩) (hcn.block bx hbxd hbxF)).trans hu
          have hbox3 : ∀ i u, wd.cell? ⟨bx, i, none⟩ = some u → w3.cell? ⟨bx, i, none⟩ = some u := fun i u hu => by
            have := hbox i u hu
            rwa [World.cell?_setCell_far w3 _ _ _ hBn] at this
          have h9 := hDn
          rw [HLX.out] at h9
          exact ⟨A3, c3, w3, hrun, e0, e1, ⟨hbox3 0 _ hSd.1, hbox3 1 _ hSd.2⟩, ⟨hbox 0 _ hSd.1, hbox 1 _ hSd.2⟩, _, h9, Ext.ge hF hsd, hBd.trans (hcn.below hF hsd), Nat.le_trans hsd hcn.size⟩
        clear hxd hDd hBd hsd
        refine wpAnyH_take (i := 0) (oi := _) (v := ?_) rfl (by kernel_rfl) (by kernel_rfl) (by kernel_rfl) (fun _ _ _ h => h) (Or.inl ⟨by rfl, ?_⟩) hSd ?_
        rotate_left
        · intro W hSW
          obtain ⟨sw0, sw1⟩ := hSW
          try go_simp
          all_goals with_reducible rfl
        simp only [Act.put, List.setIfInBounds_toArray, List.set_cons_zero, List.set_cons_succ, List.getElem_toArray, List.getElem_cons_zero, List.getElem_cons_succ]
        refine wpAnyH_take (i := 1) (oi := _) (v := ?_) rfl (by kernel_rfl) (by kernel_rfl) (by kernel_rfl) (fun _ _ _ h => h) (Or.inl ⟨by rfl, ?_⟩) hSd ?_
        rotate_left
        · intro W hSW
          obtain ⟨sw0, sw1⟩ := hSW
          try go_simp
          all_goals with_reducible rfl
        simp only [Act.put, List.setIfInBounds_toArray, List.set_cons_zero, List.set_cons_succ, List.getElem_toArray, List.getElem_cons_zero, List.getElem_cons_succ]
        refine wpAnyH_take (i := 2) (oi := _) (v := ?_) rfl (by kernel_rfl) (by kernel_rfl) (by kernel_rfl) (fun _ _ _ h => h) (Or.inl ⟨by rfl, ?_⟩) hSd ?_
        rotate_left
        · intro W hSW
          obtain ⟨sw0, sw1⟩ := hSW
          try go_simp
          all_goals with_reducible rfl
        simp only [Act.put, List.setIfInBounds_toArray, List.set_cons_zero, List.set_cons_succ, List.getElem_toArray, List.getElem_cons_zero, List.getElem_cons_succ]
        refine wpAnyH_take (i := 3) (oi := _) (v := ?_) rfl (by kernel_rfl) (by kernel_rfl) (by kernel_rfl) (fun _ _ _ h => h) (Or.inl ⟨by rfl, ?_⟩) hSd ?_
        rotate_left
        · intro W hSW
          obtain ⟨sw0, sw1⟩ := hSW
          try go_simp
          all_goals with_reducible rfl
        simp only [Act.put, List.setIfInBounds_toArray, List.set_cons_zero, List.set_cons_succ, List.getElem_toArray, List.getElem_cons_zero, List.getElem_cons_succ]
        refine wpAnyH_take (i := 5) (oi := _) (v := ?_) rfl (by kernel_rfl) (by kernel_rfl) (by kernel_rfl) (fun _ _ _ h => h) (Or.inl ⟨by rfl, ?_⟩) hSd ?_
        rotate_left
        · intro W hSW
          obtain ⟨sw0, sw1⟩ := hSW
          try go_simp
          all_goals with_reducible rfl
        simp only [Act.put, List.setIfInBounds_toArray, List.set_cons_zero, List.set_cons_succ, List.getElem_toArray, List.getElem_cons_zero, List.getElem_cons_succ]
        refine wpAnyH_take (i := 6) (oi := _) (v := ?_) rfl (by kernel_rfl) (by kernel_rfl) (by kernel_rfl) (fun _ _ _ h => h) (Or.inl ⟨by rfl, ?_⟩) hSd ?_
        rotate_left
        · intro W hSW
          obtain ⟨sw0, sw1⟩ := hSW
          try go_simp
          all_goals with_reducible rfl
        simp only [Act.put, List.setIfInBounds_toArray, List.set_cons_zero, List.set_cons_succ, List.getElem_toArray, List.getElem_cons_zero, List.getElem_cons_succ]
        refine wpAnyH_take (i := 7) (oi := _) (v := ?_) rfl (by kernel_rfl) (by kernel_rfl) (by kernel_rfl) (fun _ _ _ h => h) (Or.inl ⟨by rfl, ?_⟩) hSd ?_
        rotate_left
        · intro W hSW
          obtain ⟨sw0, sw1⟩ := hSW
          try go_simp
          all_goals with_reducible rfl
        simp only [Act.put, List.setIfInBounds_toArray, List.set_cons_zero, List.set_cons_succ, List.getElem_toArray, List.getElem_cons_zero, List.getElem_cons_succ]
        refine wpAnyH_take (i := 8) (oi := _) (v := ?_) rfl (by kernel_rfl) (by kernel_rfl) (by kernel_rfl) (fun _ _ _ h => h) (Or.inl ⟨by rfl, ?_⟩) hSd ?_
        rotate_left
        · intro W hSW
          obtain ⟨sw0, sw1⟩ := hSW
          try go_simp
          all_goals with_reducible rfl
        simp only [Act.put, List.setIfInBounds_toArray, List.set_cons_zero, List.set_cons_succ, List.getElem_toArray, List.getElem_cons_zero, List.getElem_cons_succ]
        refine wpAnyH_take (i := 10) (oi := _) (v := ?_) rfl (by kernel_rfl) (by kernel_rfl) (by kernel_rfl) (fun _ _ _ h => h) (Or.inl ⟨by rfl, ?_⟩) hSd ?_
        rotate_left
        · intro W hSW
          obtain ⟨sw0, sw1⟩ := hSW
          try go_simp
          all_goals with_reducible rfl
        simp only [Act.put, List.setIfInBounds_toArray, List.set_cons_zero, List.set_cons_succ, List.getElem_toArray, List.getElem_cons_zero, List.getElem_cons_succ]
        refine wpAnyH_take (i := 11) (oi := _) (v := ?_) rfl (by kernel_rfl) (by kernel_rfl) (by kernel_rfl) (fun _ _ _ h => h) (Or.inl ⟨by rfl, ?_⟩) hSd ?_
        rotate_left
        · intro W hSW
          obtain ⟨sw0, sw1⟩ := hSW
          try go_simp
          all_goals with_reducible rfl
        simp only [Act.put, List.setIfInBounds_toArray, List.set_cons_zero, List.set_cons_succ, List.getElem_toArray, List.getElem_cons_zero, List.getElem_cons_succ]
        refine wpAnyH_take (i := 12) (oi := _) (v := ?_) rfl (by kernel_rfl) (by kernel_rfl) (by kernel_rfl) (fun _ _ _ h => h) (Or.inl ⟨by rfl, ?_⟩) hSd ?_
        rotate_left
        · intro W hSW
          obtain ⟨sw0, sw1⟩ := hSW
          try go_simp
          all_goals with_reducible rfl
        simp only [Act.put, List.setIfInBounds_toArray, List.set_cons_zero, List.set_cons_succ, List.getElem_toArray, List.getElem_cons_zero, List.getElem_cons_succ]
        refine wpAnyH_ready (rs := [4, 9]) (by kernel_rfl) (by simp) (AllReadyH.cons rfl (fun K hK => ?_) (AllReadyH.cons rfl (fun K hK => ?_) AllReadyH.nil))
        · go_simp
          refine hK.out _ _ hSd (fun _ => ?_)
          clear hK K
          try simp only [Act.put, List.setIfInBounds_toArray, List.set_cons_zero, List.set_cons_succ, List.getElem_toArray, List.getElem_cons_zero, List.getElem_cons_succ]
          refine wpAnyH_ready (rs := [9]) (by kernel_rfl) (by simp) (AllReadyH.cons rfl (fun K hK => ?_) AllReadyH.nil)
          go_simp
          refine (HCL.out).mono ?_
          rintro e w2 ⟨v2, rfl, ho2, hb2⟩
          try dsimp only
          have hS2 := HS2.out _ hb2
          have c2 := HC2.out _ hb2
          refine hK.out _ _ hS2 (fun _ => ?_)
          clear hK K
          try simp only [Act.put, List.setIfInBounds_toArray, List.set_cons_zero, List.set_cons_succ, List.getElem_toArray, List.getElem_cons_zero, List.getElem_cons_succ]
          obtain ⟨A2, cc2, hv2⟩ := ho2.form' HLX.out
          subst hv2
          obtain ⟨A3, c3, w3, hrun, e0, e1, hS3, hS4, hfin⟩ := HPUSH.out _ _ ho2 hb2
          refine wpAnyH_take (i := 13) (oi := _) (v := ?_) rfl (by kernel_rfl) (by kernel_rfl) (by kernel_rfl) (fun _ _ _ h => h) (Or.inl ⟨by rfl, ?_⟩) hS2 ?_
          rotate_left
          · intro W hSW
            obtain ⟨sw0, sw1⟩ := hSW
            try go_simp
            all_goals with_reducible rfl
          simp only [Act.put, List.setIfInBounds_toArray, List.set_cons_zero, List.set_cons_succ, List.getElem_toArray, List.getElem_cons_zero, List.getElem_cons_succ]
          refine wpAnyH_ready (rs := [14]) (by kernel_rfl) (by simp) (AllReadyH.cons rfl (fun K hK => ?_) AllReadyH.nil)
          go_simp
          refine hK.out _ _ (HSA.out _ _ hS2) (fun _ => ?_)
          clear hK K
          try simp only [Act.put, List.setIfInBounds_toArray, List.set_cons_zero, List.set_cons_succ, List.getElem_toArray, List.getElem_cons_zero, List.getElem_cons_succ]
          have c2a := HCA.out _ (.cells #[.string nm, .slice A2 lx cc2, .int .i64 (lx : Int)] 70) c2
          refine wpAnyH_ready (rs := [15]) (by kernel_rfl) (by simp) (AllReadyH.cons rfl (fun K hK => ?_) AllReadyH.nil)
          rw [if_pos (by rfl)]
          refine wp_append_run (.tmp 32) (.tmp 42) _ rfl rfl rfl hrun ?_
          refine hK.out _ _ hS3 (fun _ => ?_)
          clear hK K
          try simp only [Act.put, List.setIfInBounds_toArray, List.set_cons_zero, List.set_cons_succ, List.getElem_toArray, List.getElem_cons_zero, List.getElem_cons_succ]
          refine wpAnyH_take (i := 16) (oi := _) (v := ?_) rfl (by kernel_rfl) (by kernel_rfl) (by kernel_rfl) (fun _ _ _ h => h) (Or.inl ⟨by rfl, ?_⟩) hS3 ?_
          rotate_left
          · intro W hSW
            obtain ⟨sw0, sw1⟩ := hSW
            try go_simp
            all_goals with_reducible rfl
          simp only [Act.put, List.setIfInBounds_toArray, List.set_cons_zero, List.set_cons_succ, List.getElem_toArray, List.getElem_cons_zero, List.getElem_cons_succ]
          refine wpAnyH_take (i := 17) (oi := _) (v := ?_) rfl (by kernel_rfl) (by kernel_rfl) (by kernel_rfl) (fun _ _ _ h => h) (Or.inl ⟨by rfl, ?_⟩) hS3 ?_
          rotate_left
          · intro W hSW
            obtain ⟨sw0, sw1⟩ := hSW
            try go_simp
            all_goals with_reducible rfl
          simp only [Act.put, List.setIfInBounds_toArray, List.set_cons_zero, List.set_cons_succ, List.getElem_toArray, List.getElem_cons_zero, List.getElem_cons_succ]
          refine wpAnyH_ready (rs := [18]) (by kernel_rfl) (by simp) (AllReadyH.cons rfl (fun K hK => ?_) AllReadyH.nil)
          go_simp
          refine hK.out _ _ hS4 (fun _ => ?_)
          clear hK K
          try simp only [Act.put, List.setIfInBounds_toArray, List.set_cons_zero, List.set_cons_succ, List.getElem_toArray, List.getElem_cons_zero, List.getElem_cons_succ]
          refine wpAnyH_done (by kernel_rfl) ?_ _
          have HX := Lib.hid hfin
          clear hfin hrun e0 e1 ho2 hb2
          go_wp2_with fail
          obtain ⟨F2, hD9, hF9, hB9, hs9⟩ := HX.out; exact ⟨⟨k + 1, F2, _, by omega, by go_num, by simp [HACC.out], HLD.out, hD9, hF9, hB9, hs9⟩, by simp [intOf]; omega⟩
        · go_simp
          refine (HCL.out).mono ?_
          rintro e w2 ⟨v2, rfl, ho2, hb2⟩
          try dsimp only
          have hS2 := HS2.out _ hb2
          have c2 := HC2.out _ hb2
          refine hK.out _ _ hS2 (fun _ => ?_)
          clear hK K
          try simp only [Act.put, List.setIfInBounds_toArray, List.set_cons_zero, List.set_cons_succ, List.getElem_toArray, List.getElem_cons_zero, List.getElem_cons_succ]
          obtain ⟨A2, cc2, hv2⟩ := ho2.form' HLX.out
          subst hv2
          obtain ⟨A3, c3, w3, hrun, e0, e1, hS3, hS4, hfin⟩ := HPUSH.out _ _ ho2 hb2
          refine wpAnyH_take (i := 13) (oi := _) (v := ?_) rfl (by kernel_rfl) (by kernel_rfl) (by kernel_rfl) (fun _ _ _ h => h) (Or.inl ⟨by rfl, ?_⟩) hS2 ?_
          rotate_left
          · intro W hSW
            obtain ⟨sw0, sw1⟩ := hSW
            try go_simp
            all_goals with_reducible rfl
          simp only [Act.put, List.setIfInBounds_toArray, List.set_cons_zero, List.set_cons_succ, List.getElem_toArray, List.getElem_cons_zero, List.getElem_cons_succ]
          refine wpAnyH_ready (rs := [4, 14]) (by kernel_rfl) (by simp) (AllReadyH.cons rfl (fun K hK => ?_) (AllReadyH.cons rfl (fun K hK => ?_) AllReadyH.nil))
          · go_simp
            refine hK.out _ _ hS2 (fun _ => ?_)
            clear hK K
            try simp only [Act.put, List.setIfInBounds_toArray, List.set_cons_zero, List.set_cons_succ, List.getElem_toArray, List.getElem_cons_zero, List.getElem_cons_succ]
            refine wpAnyH_ready (rs := [14]) (by kernel_rfl) (by simp) (AllReadyH.cons rfl (fun K hK => ?_) AllReadyH.nil)
            go_simp
            refine hK.out _ _ (HSA.out _ _ hS2) (fun _ => ?_)
            clear hK K
            try simp only [Act.put, List.setIfInBounds_toArray, List.set_cons_zero, List.set_cons_succ, List.getElem_toArray, List.getElem_cons_zero, List.getElem_cons_succ]
            have c2a := HCA.out _ (.cells #[.string nm, .slice A2 lx cc2, .int .i64 (lx : Int)] 70) c2
            refine wpAnyH_ready (rs := [15]) (by kernel_rfl) (by simp) (AllReadyH.cons rfl (fun K hK => ?_) AllReadyH.nil)
            rw [if_pos (by rfl)]
            refine wp_append_run (.tmp 32) (.tmp 42) _ rfl rfl rfl hrun ?_
            refine hK.out _ _ hS3 (fun _ => ?_)
            clear hK K
            try simp only [Act.put, List.setIfInBounds_toArray, List.set_cons_zero, List.set_cons_succ, List.getElem_toArray, List.getElem_cons_zero, List.getElem_cons_succ]
            refine wpAnyH_take (i := 16) (oi := _) (v := ?_) rfl (by kernel_rfl) (by kernel_rfl) (by kernel_rfl) (fun _ _ _ h => h) (Or.inl ⟨by rfl, ?_⟩) hS3 ?_
            rotate_left
            · intro W hSW
              obtain ⟨sw0, sw1⟩ := hSW
              try go_simp
              all_goals with_reducible rfl
            simp only [Act.put, List.setIfInBounds_toArray, List.set_cons_zero, List.set_cons_succ, List.getElem_toArray, List.getElem_cons_zero, List.getElem_cons_succ]
            refine wpAnyH_take (i := 17) (oi := _) (v := ?_) rfl (by kernel_rfl) (by kernel_rfl) (by kernel_rfl) (fun _ _ _ h => h) (Or.inl ⟨by rfl, ?_⟩) hS3 ?_
            rotate_left
            · intro W hSW
              obtain ⟨sw0, sw1⟩ := hSW
              try go_simp
              all_goals with_reducible rfl
            simp only [Act.put, List.setIfInBounds_toArray, List.set_cons_zero, List.set_cons_succ, List.getElem_toArray, List.getElem_cons_zero, List.getElem_cons_succ]
            refine wpAnyH_ready (rs := [18]) (by kernel_rfl) (by simp) (AllReadyH.cons rfl (fun K hK => ?_) AllReadyH.nil)
            go_simp
            refine hK.out _ _ hS4 (fun _ => ?_)
            clear hK K
            try simp only [Act.put, List.setIfInBounds_toArray, List.set_cons_zero, List.set_cons_succ, List.getElem_toArray, List.getElem_cons_zero, List.getElem_cons_succ]
            refine wpAnyH_done (by kernel_rfl) ?_ _
            have HX := Lib.hid hfin
            clear hfin hrun e0 e1 ho2 hb2
            go_wp2_with fail
            obtain ⟨F2, hD9, hF9, hB9, hs9⟩ := HX.out; exact ⟨⟨k + 1, F2, _, by omega, by go_num, by simp [HACC.out], HLD.out, hD9, hF9, hB9, hs9⟩, by simp [intOf]; omega⟩
          · go_simp
            refine hK.out _ _ (HSA.out _ _ hS2) (fun _ => ?_)
            clear hK K
            try simp only [Act.put, List.setIfInBounds_toArray, List.set_cons_zero, List.set_cons_succ, List.getElem_toArray, List.getElem_cons_zero, List.getElem_cons_succ]
            have c2a := HCA.out _ (.cells #[.string nm, .slice A2 lx cc2, .int .i64 (lx : Int)] 70) c2
            refine wpAnyH_ready (rs := [4]) (by kernel_rfl) (by simp) (AllReadyH.cons rfl (fun K hK => ?_) AllReadyH.nil)
            go_simp
            refine hK.out _ _ (HSA.out _ _ hS2) (fun _ => ?_)
            clear hK K
            try simp only [Act.put, List.setIfInBounds_toArray, List.set_cons_zero, List.set_cons_succ, List.getElem_toArray, List.getElem_cons_zero, List.getElem_cons_succ]
            refine wpAnyH_ready (rs := [15]) (by kernel_rfl) (by simp) (AllReadyH.cons rfl (fun K hK => ?_) AllReadyH.nil)
            rw [if_pos (by rfl)]
            refine wp_append_run (.tmp 32) (.tmp 42) _ rfl rfl rfl hrun ?_
            refine hK.out _ _ hS3 (fun _ => ?_)
            clear hK K
            try simp only [Act.put, List.setIfInBounds_toArray, List.set_cons_zero, List.set_cons_succ, List.getElem_toArray, List.getElem_cons_zero, List.getElem_cons_succ]
            refine wpAnyH_take (i := 16) (oi := _) (v := ?_) rfl (by kernel_rfl) (by kernel_rfl) (by kernel_rfl) (fun _ _ _ h => h) (Or.inl ⟨by rfl, ?_⟩) hS3 ?_
            rotate_left
            · intro W hSW
              obtain ⟨sw0, sw1⟩ := hSW
              try go_simp
              all_goals with_reducible rfl
            simp only [Act.put, List.setIfInBounds_toArray, List.set_cons_zero, List.set_cons_succ, List.getElem_toArray, List.getElem_cons_zero, List.getElem_cons_succ]
            refine wpAnyH_take (i := 17) (oi := _) (v := ?_) rfl (by kernel_rfl) (by kernel_rfl) (by kernel_rfl) (fun _ _ _ h => h) (Or.inl ⟨by rfl, ?_⟩) hS3 ?_
            rotate_left
            · intro W hSW
              obtain ⟨sw0, sw1⟩ := hSW
              try go_simp
              all_goals with_reducible rfl
            simp only [Act.put, List.setIfInBounds_toArray, List.set_cons_zero, List.set_cons_succ, List.getElem_toArray, List.getElem_cons_zero, List.getElem_cons_succ]
            refine wpAnyH_ready (rs := [18]) (by kernel_rfl) (by simp) (AllReadyH.cons rfl (fun K hK => ?_) AllReadyH.nil)
            go_simp
            refine hK.out _ _ hS4 (fun _ => ?_)
            clear hK K
            try simp only [Act.put, List.setIfInBounds_toArray, List.set_cons_zero, List.set_cons_succ, List.getElem_toArray, List.getElem_cons_zero, List.getElem_cons_succ]
            refine wpAnyH_done (by kernel_rfl) ?_ _
            have HX := Lib.hid hfin
            clear hfin hrun e0 e1 ho2 hb2
            go_wp2_with fail
            obtain ⟨F2, hD9, hF9, hB9, hs9⟩ := HX.out; exact ⟨⟨k + 1, F2, _, by omega, by go_num, by simp [HACC.out], HLD.out, hD9, hF9, hB9, hs9⟩, by simp [intOf]; omega⟩

      · have HX := Lib.hid hB2
        by_cases hnb : namedB nm = true
        · have hfi : 0 ≤ findI acc nm := by rcases findI_lt acc nm with ⟨h, _⟩ | ⟨_, h⟩; exact absurd ⟨hnb, h⟩ hcond; exact h
          rw [hnb]
          have s0 := (HBX.out wa (Below.refl _ _)).1
          clear hcond hld
          go_wp2_with fail
          refine (find_any hD1 nm).mono ?_
          rintro e wq ⟨rfl, hbq⟩
          have HY := Lib.hid (hB2.trans (hbq.mono hs2))
          obtain ⟨fi, hfe⟩ : ∃ fi, fi = findI acc nm := ⟨_, rfl⟩
          change _ ≤ findI acc nm at hfi
          show _
          simp only []
          rw [← hfe] at hfi ⊢
          clear hfe hB2 hD1 hbq
          go_wp2_with fail
          go_ret2
          exact ⟨rfl, by rw [← HB.out]; exact HY.out⟩
        · have hnb' : namedB nm = false := by simpa using hnb
          rw [hnb']
          clear hcond hld hnb hnb' hB2 hD1
          go_wp2_with fail
          go_ret2
          exact ⟨rfl, by rw [← HB.out]; exact HX.out⟩
    · rw [List.drop_of_length_le (by have := HN.out; omega)] at hld
      cases hld
end Go.Proofs.Ytbbpkenbeenocaa
