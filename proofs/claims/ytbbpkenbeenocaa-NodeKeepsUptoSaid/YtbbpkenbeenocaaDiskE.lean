
/- The walks of a disk: what a loss of power leaves of a file. -/
import Derived.Test.YtbbpkenbeenocaaDiskD
import Derived.Test.YtbbpkenbeenocaaDiskZ
namespace Go.Proofs.Ytbbpkenbeenocaa
set_option maxRecDepth 100000
open Go Go.RowKit
set_option linter.unusedVariables false

/-- The slice value v reads as the truths l, in blocks below B. -/
def RdL (w : World) (B : Nat) (v : Value) (l : List Bool) : Prop :=
  ∃ A c, v = .slice A l.length c ∧ l.length ≤ c ∧ c ≤ maxLen ∧ (0 < l.length → ∃ b o, A = some ⟨b, o, none⟩ ∧ b < B ∧ ∀ j (h : j < l.length), w.cell? ⟨b, o + j, none⟩ = some (.bool l[j]))

section
variable {w w' : World} {B B' : Nat} {v : Value} {l : List Bool}
theorem RdL.below (h : RdL w B v l) (hb : Below B w w') : RdL w' B v l := by
  obtain ⟨A, c, rfl, h1, h2, hp⟩ := h
  refine ⟨A, c, rfl, h1, h2, fun h0 => ?_⟩
  obtain ⟨b, o, rfl, hlt, hc⟩ := hp h0
  exact ⟨b, o, rfl, hlt, fun j hj => (hb.cell (p := ⟨b, o + j, none⟩) hlt).trans (hc j hj)⟩
theorem RdL.more (h : RdL w B v l) (hB : B ≤ B') : RdL w B' v l := by
  obtain ⟨A, c, rfl, h1, h2, hp⟩ := h
  refine ⟨A, c, rfl, h1, h2, fun h0 => ?_⟩
  obtain ⟨b, o, rfl, hlt, hc⟩ := hp h0
  exact ⟨b, o, rfl, by omega, hc⟩
theorem RdL.up (h : RdL w B v l) (hB : B ≤ w.heap.size) (hb : Below w.heap.size w w') : RdL w' w'.heap.size v l := ((h.more hB).below hb).more hb.size
theorem RdL.form (h : RdL w B v l) : ∃ A c, v = .slice A l.length c ∧ l.length ≤ c ∧ c ≤ maxLen := by obtain ⟨A, c, h1, h2, h3, _⟩ := h; exact ⟨A, c, h1, h2, h3⟩
end

section
variable {P : Program}
theorem addr_add_zero (a : Addr) : a.add 0 = a := by
  obtain ⟨b, o, s⟩ := a
  cases s <;> simp [Addr.add]
theorem run_slice_to (t e : TypeId) (i : TypeInfo) (ht : P.underlying t = some (.slice e)) (hi : P.info? e = some i) (A : Option Addr) (L c n : Nat) (hn : n ≤ c) (W : World) :
    (Instr.slice t (.slice A L c) none (some (.int .i64 (n : Int))) none).run P W = .ok (.slice A n c) W := by
  have h1 : (n : Int) ≤ (c : Int) := by omega
  simp [Instr.slice, run_underlying ht, Instr.sliceBounds, Instr.sliceBound, asIntOf, sizeOf, typeInfo, hi, h1]
  rw [if_pos hn]
  cases A <;> simp [addr_add_zero]
theorem run_slice_from (t e : TypeId) (i : TypeInfo) (ht : P.underlying t = some (.slice e)) (hi : P.info? e = some i) (A : Option Addr) (L c lo : Nat) (hn : lo ≤ L) (hL : L ≤ c) (W : World) :
    (Instr.slice t (.slice A L c) (some (.int .i64 (lo : Int))) none none).run P W = .ok (.slice (if c = lo then A else A.map (·.add (lo * i.size))) (L - lo) (c - lo)) W := by
  have h1 : (lo : Int) ≤ (L : Int) := by omega
  simp [Instr.slice, run_underlying ht, Instr.sliceBounds, Instr.sliceBound, asIntOf, sizeOf, typeInfo, hi, h1]
  intro h
  omega
variable {w : World} {B : Nat} {l : List Bool}
theorem RdL.take {A : Option Addr} {L c n : Nat} (h : RdL w B (.slice A L c) l) (hn : n ≤ l.length) : RdL w B (.slice A n c) (l.take n) := by
  obtain ⟨A', c', e, h1, h2, hp⟩ := h
  injection e with e1 e2 e3
  subst e1; subst e3
  have hl : (l.take n).length = n := by simp; omega
  refine ⟨A, c, by rw [hl], by omega, h2, fun h0 => ?_⟩
  obtain ⟨b, o, rfl, hlt, hc⟩ := hp (by omega)
  exact ⟨b, o, rfl, hlt, fun j hj => by rw [List.getElem_take]; exact hc j (by omega)⟩
theorem RdL.drop {A : Option Addr} {L c lo : Nat} (h : RdL w B (.slice A L c) l) (hn : lo ≤ l.length) : RdL w B (.slice (if c = lo then A else A.map (·.add (lo * 1))) (L - lo) (c - lo)) (l.drop lo) := by
  obtain ⟨A', c', e, h1, h2, hp⟩ := h
  injection e with e1 e2 e3
  subst e1; subst e3
  refine ⟨_, c - lo, by rw [List.length_drop, e2], by rw [List.length_drop]; omega, by omega, fun h0 => ?_⟩
  rw [List.length_drop] at h0
  obtain ⟨b, o, rfl, hlt, hc⟩ := hp (by omega)
  refine ⟨b, o + lo, by rw [if_neg (by omega)]; simp [addr_add_none'], hlt, fun j hj => ?_⟩
  rw [List.length_drop] at hj
  rw [List.getElem_drop, Nat.add_assoc]
  exact hc (lo + j) (by omega)
end

/-- what is left behind k rounds -/
def remK (data : List UInt8) (safe : Nat) (keep : List Bool) (k : Nat) : List UInt8 × Nat := ((data.drop safe).zip (keep.take k)).foldl remStep (data.take safe, 0)
theorem remK_zero (data : List UInt8) (safe : Nat) (keep : List Bool) : remK data safe keep 0 = (data.take safe, 0) := by simp [remK]
theorem remK_succ (data : List UInt8) (safe : Nat) (keep : List Bool) (k : Nat) (h1 : k < keep.length) (h2 : safe + k < data.length) : remK data safe keep (k + 1) = remStep (remK data safe keep k) (data[safe + k], keep[k]) := by
  unfold remK
  have e : (data.drop safe).zip (keep.take (k + 1)) = (data.drop safe).zip (keep.take k) ++ [(data[safe + k], keep[k])] := by
    rw [List.take_succ_eq_append_getElem h1]
    have e1 : data.drop safe = (data.drop safe).take k ++ (data.drop safe).drop k := (List.take_append_drop _ _).symm
    have hl : ((data.drop safe).take k).length = (keep.take k).length := by simp; omega
    have e2 : (data.drop safe).drop k = data[safe + k] :: (data.drop safe).drop (k + 1) := by
      rw [List.drop_drop, List.drop_drop, List.drop_eq_getElem_cons h2]
      congr 1
    have e3 : (data.drop safe).zip (keep.take k) = ((data.drop safe).take k).zip (keep.take k) := by
      conv => lhs; rw [e1]
      rw [← List.append_nil (keep.take k), List.zip_append hl]
      simp
    rw [e3]
    conv => lhs; rw [e1, e2]
    rw [List.zip_append hl]
    simp
  rw [e, List.foldl_append]
  rfl
theorem remK_len (data : List UInt8) (safe : Nat) (keep : List Bool) (k : Nat) (hs : safe ≤ data.length) (h1 : k ≤ keep.length) (h2 : safe + k ≤ data.length) : (remK data safe keep k).1.length + (remK data safe keep k).2 = safe + k := by
  unfold remK
  rw [remFold_len]
  simp
  omega
theorem remK_all (f : FM) (keep : List Bool) : (remK f.data f.safe keep keep.length).1 = remM f keep := by simp [remK, remM, remS]

set_option maxHeartbeats 1000000 in
theorem remains_any (w : World) (f : FM) (dv kv : Value) (keep : List Bool) (hd : Dat w dv f.data) (hs : f.safe ≤ f.data.length) (hk : RdL w w.heap.size kv keep) (hkl : keep.length ≤ f.data.length - f.safe) (hlen : f.data.length ≤ 1000000000) :
    Calls Try.prog 50 #[.agg #[.string f.name, dv, .int .i64 (f.safe : Int)], kv] w fun e w' => ∃ v, e = .returned v ∧ Own w' w.heap.size v (remM f keep) ∧ Below w.heap.size w w' := by
  obtain ⟨i0, hi, hz, hsz, hby⟩ := info_parts Try.infoByte
  obtain ⟨AK, ck, rfl, hkc, hkm, hkp⟩ := hk
  unfold maxLen at hkm
  obtain ⟨n, hn⟩ : ∃ n, n = keep.length := ⟨_, rfl⟩
  rw [← hn] at hkc hkl ⊢
  have HN := Lib.hid hn
  have HKP := Lib.hid hkp
  clear hn hkp
  obtain ⟨L, hL⟩ : ∃ L, L = f.data.length := ⟨_, rfl⟩
  have HL := Lib.hid hL
  obtain ⟨A, c, rfl⟩ := hd.form
  have hcc : f.data.length ≤ c := by
    rcases hd with ⟨e, h0⟩ | ⟨g, cap, cur, e, _, hn, _⟩
    · rw [h0]; simp
    · injection e with _ _ e; omega
  have hcm : c ≤ 9223372036854775807 := by
    rcases hd with ⟨e, h0⟩ | ⟨g, cap, cur, e, _, _, hn, _⟩
    · injection e with _ _ e; omega
    · unfold maxLen at hn; injection e with _ _ e; omega
  have hcut : Dat w (.slice A f.safe c) (f.data.take f.safe) := hd.take hs (.inl rfl)
  have hbx : Below w.heap.size w (w.alloc (.cells #[.string f.name, .slice A f.data.length c, .int .i64 (f.safe : Int)] 70)) := (Below.refl _ _).alloc (Nat.le_refl _) _
  have hcut2 := hcut.below hbx
  have hd2 := hd.below hbx
  have i1 : (0 : Int) ≤ (f.safe : Int) := by omega
  have i2 : (f.safe : Int) ≤ (c : Int) := by omega
  rw [← hL] at hcc hs hkl hlen hbx hcut2 hd2 ⊢
  have HC := Lib.hid hcut2
  have HD := Lib.hid hd2
  clear hcut hcut2 hd2 hd hL
  have cb1 : (w.alloc (.cells #[.string f.name, .slice A L c, .int .i64 (f.safe : Int)] 70)).cell? ⟨w.heap.size, 1, none⟩ = some (.slice A L c) := blk_cell (heap_alloc_new w _) 1
  have cb2 : (w.alloc (.cells #[.string f.name, .slice A L c, .int .i64 (f.safe : Int)] 70)).cell? ⟨w.heap.size, 2, none⟩ = some (.int .i64 (f.safe : Int)) := blk_cell (heap_alloc_new w _) 2
  have hzB : (w.alloc (.cells #[.string f.name, .slice A L c, .int .i64 (f.safe : Int)] 70)).heap.size = w.heap.size + 1 := by simp
  go_enter Try.func50, Try.ntmps50
  obtain ⟨wb, hwbe⟩ : ∃ wb, wb = w.alloc (.cells #[.string f.name, .slice A L c, .int .i64 (f.safe : Int)] 70) := ⟨_, rfl⟩
  have hsl : ∀ W : World, (Instr.slice 40 (.slice A L c) none (some (.int .i64 (f.safe : Int))) none).run Try.prog W = .ok (.slice A f.safe c) W := run_slice_to _ _ i0 Try.underlying40 hi A L c f.safe (by omega)
  go_wp2_with fail
  clear hsl
  rw [← hwbe] at hbx HC HD cb1 cb2 hzB ⊢
  clear hwbe
  refine (clone_any _ _ _ HC.out.rd (by simp; omega)).mono ?_
  rintro e w1 ⟨v1, rfl, ho1, hb1⟩
  rw [hzB] at ho1 hb1
  go_wp2_with fail
  go_loopw [5, 17] (fun ov i wr => ∃ (k p : Nat) (out : List UInt8), k ≤ n ∧ i = .int .i64 (k : Int) ∧ remK f.data f.safe keep k = (out, p) ∧ Own wr (w.heap.size + 1) ov out ∧ Below (w.heap.size + 1) wb wr)
    (fun _ i _ => n - (intOf i).toNat)
  case atStart => exact ⟨0, 0, _, Nat.zero_le _, rfl, remK_zero _ _ _, ho1, hb1⟩
  case round =>
    obtain ⟨k, p, out, hk, rfl, hst, ho, hb⟩ := hrel
    by_cases hlt : k < n
    · have hkk : k < keep.length := by have := HN.out; omega
      have hsk : f.safe + k < f.data.length := by have := HL.out; omega
      have hln := remK_len f.data f.safe keep k (by have := HL.out; omega) (by omega) (by omega)
      have hsu := remK_succ f.data f.safe keep k hkk hsk
      rw [hst] at hln hsu
      have HST := Lib.hid hst
      clear hst
      obtain ⟨b, o, rfl, hbl, hcell⟩ := HKP.out (by omega)
      have ck := (hb.cell (p := ⟨b, o + k, none⟩) (by show b < w.heap.size + 1; omega)).trans ((hbx.cell (p := ⟨b, o + k, none⟩) hbl).trans (hcell k hkk))
      have cx1 := (hb.cell (p := ⟨w.heap.size, 1, none⟩) (by show w.heap.size < w.heap.size + 1; omega)).trans cb1
      have cx2 := (hb.cell (p := ⟨w.heap.size, 2, none⟩) (by show w.heap.size < w.heap.size + 1; omega)).trans cb2
      have j1 : (0 : Int) ≤ (k : Int) := by omega
      have j2 : (k : Int) < (n : Int) := by omega
      obtain ⟨A1, c1, rfl⟩ := ho.form
      have hzz := hb.size
      rw [hzB] at hzz
      cases hkv : keep[k] with
      | false =>
        rw [hkv] at ck hsu
        have HS := Lib.hid hsu
        have HO := Lib.hid ho
        clear hsu hkv hcell cb1 cb2 cx1 cx2 ho hln
        go_wp2_with fail
        go_roundw
        case rel => exact ⟨k + 1, p + 1, out, by omega, by go_num, HS.out, HO.out, hb⟩
        case measure => simp [intOf]; omega
      | true =>
        rw [hkv] at ck hsu
        have HS := Lib.hid hsu
        have HO := Lib.hid ho
        simp only at hln
        have q0 : (0 : Int) ≤ (out.length : Int) := by omega
        have q1 : (f.safe : Int) + (k : Int) ≤ 1000000000 := by have := HL.out; omega
        have q2 : (0 : Int) ≤ (f.safe : Int) + (k : Int) - (out.length : Int) := by omega
        have HP := Lib.hid (show (f.safe : Int) + (k : Int) - (out.length : Int) = (p : Int) by omega)
        have hpl : out.length + p ≤ 140737488355328 := by have := HL.out; omega
        obtain ⟨-, bd, od, rfl, hbd, hdc⟩ := (HD.out.rd).cell (by omega)
        rw [hzB] at hbd
        have cd := (hb.cell (p := ⟨bd, od + (f.safe + k), none⟩) hbd).trans (hdc (f.safe + k) hsk)
        have q3 : (f.safe : Int) + (k : Int) < (L : Int) := by have := HL.out; omega
        have q4 : (0 : Int) ≤ (f.safe : Int) + (k : Int) := by omega
        have HPL2 : Hid ((out ++ List.replicate p (0 : UInt8)).length + [(0 : UInt8)].length ≤ 140737488355328) := Lib.hid (by simp; have := HL.out; omega)
        have HPL3 : Hid ((out ++ List.replicate p (0 : UInt8)).length = out.length + p) := Lib.hid (by simp)
        have HKEEP : Hid (∀ w2 : World, wr.grownBy w2 (Value.slice A1 out.length c1).ownBlock → Below (w.heap.size + 1) wr w2) := Lib.hid fun w2 hg => Own.below_grown (Below.refl _ _) ho (Nat.le_refl _) hzz hg
        clear hsu hkv hcell cb1 cb2 ho hln hdc
        generalize f.data[f.safe + k] = x at *
        unfold bval at cd
        go_wp2_with (first
          | (at_builtin; refine wpList_append_zeros (v := Value.slice A1 out.length c1) rfl (.tmp 30) (.tmp 31) _ _ 9 rfl i0 Try.underlying40 Try.underlying3 Try.isString hi hz hsz hby rfl HO.out p (congrArg (Value.int .i64) HP.out) hpl hzz ?_; intro v2 w2 ho2 hg2; have hb2 := HKEEP.out w2 hg2; obtain ⟨A2, c2, hv2⟩ := ho2.form' HPL3.out; subst hv2; have e1 := (hb2.cell (p := ⟨w.heap.size, 1, none⟩) (Nat.lt_succ_self _)).trans cx1; have e2 := (hb2.cell (p := ⟨w.heap.size, 2, none⟩) (Nat.lt_succ_self _)).trans cx2; have e3 := (hb2.cell (p := ⟨bd, od + (f.safe + k), none⟩) hbd).trans cd; have HO2 := Lib.hid ho2; have hz2 := Nat.le_trans hzz hb2.size; clear ho2 hg2)
          | (at_builtin; refine wpList_append_rd (v := Value.slice A2 (out.length + p) c2) rfl (.tmp 33) (.tmp 42) _ rfl i0 Try.underlying40 hi hz hsz hby rfl (HO2.out.alloc _) rfl (rd_lit _ _ [x] 1 rfl rfl (by unfold maxLen; omega)) HPL2.out (Nat.le_trans hz2 (by simp)) ?_; intro v3 w3 ho3 hg3 _))
        refine ⟨⟨k + 1, 0, _, by omega, by go_num, HS.out, ho3, ?_⟩, by simp [intOf]; omega⟩
        exact hb.trans (hb2.trans (Own.below_grown ((Below.refl _ _).alloc hz2 _) (HO2.out.alloc _) (Nat.le_refl _) (Nat.le_trans hz2 (by simp)) hg3))
    · obtain rfl : k = n := by omega
      have j2 : ¬ (k : Int) < (k : Int) := by omega
      have e : out = remM f keep := by
        have e := remK_all f keep
        rw [← HN.out, hst] at e
        exact e
      have ho' := ho.more (B' := w.heap.size) (by omega)
      rw [e] at ho'
      have hfin := And.intro ho' (hbx.trans (hb.mono (B' := w.heap.size) (by omega)))
      have HX := Lib.hid hfin
      clear hfin ho ho' hst e
      go_wp2_with fail
      go_ret
      exact ⟨_, rfl, HX.out⟩

/-! ### rows of files as they are handed out -/
/-- a row of files by name and bytes, of the call's own from B on; each one's bytes are the call's own too -/
def ccells (ps : List (ByteArray × Value)) : List Value := ps.flatMap fun p => [.string p.1, p.2]
def OutAt (w : World) (B : Nat) (v : Value) (fs : List (ByteArray × List UInt8)) : Prop :=
  ∃ dvs : List Value, dvs.length = fs.length ∧ w.ownsRow B 62 2 v fs.length (ccells ((fs.map (·.1)).zip dvs)) ∧ ∀ (j : Nat) (f : ByteArray × List UInt8) (dv : Value), fs[j]? = some f → dvs[j]? = some dv → Own w B dv f.2
theorem ccells_length (ps : List (ByteArray × Value)) : (ccells ps).length = ps.length * 2 := by
  induction ps with
  | nil => rfl
  | cons p ps ih => simp only [ccells, List.flatMap_cons, List.length_append, List.length_cons, List.length_nil] at *; omega
theorem ccells_get (ps : List (ByteArray × Value)) : ∀ (k : Nat) (p : ByteArray × Value), ps[k]? = some p → (ccells ps)[k * 2]? = some (.string p.1) ∧ (ccells ps)[k * 2 + 1]? = some p.2 := by
  induction ps with
  | nil => intro k p h; simp at h
  | cons q ps ih =>
    intro k p h
    rcases k with _ | k
    · simp at h; subst h; simp [ccells]
    · have h' := ih k p (by simpa using h)
      have e : ccells (q :: ps) = .string q.1 :: q.2 :: ccells ps := rfl
      rw [e, show (k + 1) * 2 = k * 2 + 1 + 1 from by omega]
      simp only [List.getElem?_cons_succ]
      exact h'

section
variable {w w' : World} {B B' : Nat} {v : Value} {fs : List (ByteArray × List UInt8)}
theorem OutAt.nil (w : World) (B : Nat) : OutAt w B (.slice none 0 0) [] := ⟨[], rfl, World.ownsRow_nil w B _ 2, by simp⟩
theorem OutAt.form (h : OutAt w B v fs) : ∃ A c, v = .slice A fs.length c := by
  obtain ⟨dvs, _, h, _⟩ := h
  rcases h.2 with ⟨rfl, h0⟩ | ⟨g, cap, cur, rfl, _⟩
  · exact ⟨none, 0, by rw [h0]⟩
  · exact ⟨_, _, rfl⟩
theorem OutAt.below (h : OutAt w B v fs) (hb : Below w.heap.size w w') : OutAt w' B v fs := by
  obtain ⟨dvs, h0, h, hr⟩ := h
  refine ⟨dvs, h0, ⟨h.1, ?_⟩, fun j f dv h1 h2 => (hr j f dv h1 h2).below hb⟩
  rcases h.2 with h0 | ⟨g, cap, cur, hv, hB, hg, rest⟩
  · exact .inl h0
  · exact .inr ⟨g, cap, cur, hv, hB, (hb.block g (blk_lt hg)).trans hg, rest⟩
/-- one file of it -/
theorem OutAt.at_ {A : Option Addr} {n c : Nat} (h : OutAt w B (.slice A n c) fs) (k : Nat) (hk : k < fs.length) :
    ∃ g o dv, A = some ⟨g, o, none⟩ ∧ g < w.heap.size ∧ w.cell? ⟨g, o + k * 2, none⟩ = some (.string fs[k].1) ∧ w.cell? ⟨g, o + k * 2 + 1, none⟩ = some dv ∧ Own w B dv fs[k].2 := by
  obtain ⟨dvs, hl, h, hr⟩ := h
  rcases h.2 with ⟨_, h0⟩ | ⟨g, cap, cur, hv, hB, hg, hn, hm, hs, ht⟩
  · omega
  · injection hv with h1 h2 h3
    subst h1; subst h3
    have hkd : k < dvs.length := by omega
    have hz : ((fs.map (·.1)).zip dvs)[k]? = some (fs[k].1, dvs[k]) := by
      rw [List.getElem?_eq_getElem (by simp; omega)]
      simp
    have hc := ccells_get _ k _ hz
    have hcur : ∀ i u, i < fs.length * 2 → (ccells ((fs.map (·.1)).zip dvs))[i]? = some u → w.cell? ⟨g, 0 + i, none⟩ = some u := fun i u hi hu => by
      rw [Nat.zero_add, cell_of_row w g i cur _ (0, 0) hg, ← hu, ← ht, List.getElem?_take, if_pos hi]
      simp
    exact ⟨g, 0, dvs[k], rfl, blk_lt hg, hcur _ _ (by omega) hc.1, by rw [Nat.add_assoc]; exact hcur _ _ (by omega) hc.2, hr k _ _ (List.getElem?_eq_getElem hk) (List.getElem?_eq_getElem hkd)⟩
theorem OutAt.lt (h : OutAt w B v fs) : ∀ k, v.ownBlock = some k → B ≤ k ∧ k < w.heap.size := by
  obtain ⟨dvs, _, h, _⟩ := h
  exact World.ownsRow.lt h

theorem Try.infoOut : (Try.prog.info? 62).map (fun i => (i.zero, i.size, i.bytes)) = some (some (.agg #[.string ⟨#[]⟩, .slice none 0 0]), 2, 40) := by kernel_rfl

/-- one file more -/
theorem OutAt.push (h : OutAt w B v fs) {P : Program} (t ty : TypeId) (i : TypeInfo) (ht : P.underlying t = some (.slice 62)) (hi : P.info? 62 = some i) {z : Value} (hz : i.zero = some z) (hsize : i.size = 2) (hby : i.bytes = 40) (hzs : z.cells.size = 2)
    (s : ByteArray) (l : List UInt8) (dv : Value) (hd : Own w B dv l) {b o c : Nat} (hnews : ∀ j u, [Value.string s, dv][j]? = some u → w.cell? ((⟨b, o, none⟩ : Addr).add j) = some u) (hlen : fs.length ≤ 1000) (hB : B ≤ w.heap.size) :
    ∃ v' w', (Builtin.append_ #[t, t] ty #[v, .slice (some ⟨b, o, none⟩) 1 c]).run P w = .ok v' w' ∧ OutAt w' B v' (fs ++ [(s, l)]) ∧ w.grownBy w' v.ownBlock := by
  obtain ⟨dvs, hl, hown, hr⟩ := h
  obtain ⟨v', w', hrun, ho2, hgr, _, hat⟩ := run_append_own_at (P := P) w B t ty 62 i z 2 40 ht hi hz hsize hby hzs (by omega) v fs.length _ hown ⟨b, o, none⟩ 1 c [.string s, dv]
    rfl hnews (fun u hu => by
      simp only [List.mem_cons, List.not_mem_nil, or_false] at hu
      rcases hu with rfl | rfl
      · rfl
      · obtain ⟨A, c, rfl⟩ := hd.form; rfl) (by simp only [maxLen]; omega) (by omega) hB
  have hne : ∀ x l, Own w B x l → Own w' B x l := fun x l hx => hx.grown hgr (by
    by_cases e : x.ownBlock = none
    · exact .inl e
    · refine .inr fun e2 => ?_
      rcases hx.2 with ⟨rfl, _⟩ | ⟨g, cap, cur, rfl, _, hg, _⟩
      · exact e rfl
      · rcases hown.2 with ⟨rfl, _⟩ | ⟨g2, cap2, cur2, rfl, _, hg2, _⟩
        · simp [Value.ownBlock] at e2
        · simp only [Value.ownBlock, Option.some.injEq] at e2
          subst e2
          rw [hg] at hg2
          injection hg2 with hg2
          injection hg2 with _ hg2 _
          exact absurd hg2 (by decide))
  refine ⟨v', w', hrun, ⟨dvs ++ [dv], by simp [hl], ?_, fun j f x h1 h2 => ?_⟩, hgr⟩
  · have e : ccells (((fs ++ [(s, l)]).map (·.1)).zip (dvs ++ [dv])) = ccells ((fs.map (·.1)).zip dvs) ++ [.string s, dv] := by
      rw [List.map_append, List.zip_append (by simp [hl])]
      simp [ccells]
    rw [e, List.length_append]
    exact ho2
  · by_cases e : j < fs.length
    · rw [List.getElem?_append_left e] at h1
      rw [List.getElem?_append_left (by omega)] at h2
      exact hne _ _ (hr j f x h1 h2)
    · have hj : j = fs.length := by
        have := (List.getElem?_eq_some_iff.1 h1).1
        simp at this; omega
      subst hj
      rw [List.getElem?_append_right (by omega)] at h1
      rw [List.getElem?_append_right (by omega), hl] at h2
      simp at h1 h2
      subst h1; subst h2
      exact hne _ _ hd
end
end Go.Proofs.Ytbbpkenbeenocaa
