
/- The walk of a disk's Load: what is handed in, the model; the walk up to the file that is taken. -/
import Derived.Test.YtbbpkenbeenocaaDiskF
import Derived.Test.YtbbpkenbeenocaaHeldBy
namespace Go.Proofs.Ytbbpkenbeenocaa
set_option maxRecDepth 100000
open Go Go.RowKit

/-- The slice value v reads as files, in blocks below B. -/
def RdFs (w : World) (B : Nat) (v : Value) (fs : List (ByteArray × List UInt8)) : Prop :=
  ∃ A c, v = .slice A fs.length c ∧ fs.length ≤ c ∧ c ≤ maxLen ∧ (0 < fs.length → ∃ b o, A = some ⟨b, o, none⟩ ∧ b < B ∧ ∀ j (h : j < fs.length), w.cell? ⟨b, o + j * 2, none⟩ = some (.string fs[j].1) ∧ ∃ x, w.cell? ⟨b, o + j * 2 + 1, none⟩ = some x ∧ Rd w B x fs[j].2)
section
variable {w w' : World} {B : Nat} {v : Value} {fs : List (ByteArray × List UInt8)}
theorem RdFs.below (h : RdFs w B v fs) (hb : Below B w w') : RdFs w' B v fs := by
  obtain ⟨A, c, rfl, h1, h2, hp⟩ := h
  refine ⟨A, c, rfl, h1, h2, fun h0 => ?_⟩
  obtain ⟨b, o, rfl, hlt, hc⟩ := hp h0
  refine ⟨b, o, rfl, hlt, fun j hj => ?_⟩
  obtain ⟨k0, x, hx, hr⟩ := hc j hj
  exact ⟨(hb.cell (p := ⟨b, o + j * 2, none⟩) hlt).trans k0, x, (hb.cell (p := ⟨b, o + j * 2 + 1, none⟩) hlt).trans hx, hr.below hb⟩
theorem OutAt.rdFs {B' : Nat} (h : OutAt w B' v fs) : RdFs w w.heap.size v fs := by
  have h0 := h
  obtain ⟨dvs, hl, hown, hr⟩ := h
  rcases hown.2 with ⟨rfl, h00⟩ | ⟨g, cap, cur, rfl, hB, hg, hn, hm, hs, ht⟩
  · obtain rfl : fs = [] := List.eq_nil_of_length_eq_zero h00
    exact ⟨none, 0, rfl, by simp, by simp [maxLen], fun h => absurd h (by simp)⟩
  · refine ⟨_, _, rfl, hn, hm, fun _ => ⟨g, 0, rfl, blk_lt hg, fun j hj => ?_⟩⟩
    obtain ⟨g', o', dv, e, hg', k0, k1, hd⟩ := h0.at_ j hj
    injection e with e
    injection e with e1 e2
    subst e1; subst e2
    exact ⟨k0, dv, k1, hd.rd⟩
end

/-- the files of a disk that is made of these, or none -/
def loadL : List (ByteArray × List UInt8) → List FM → Option (List FM)
  | [], acc => some acc
  | f :: fs, acc => if namedB f.1 = true ∧ placeF acc f.1 = acc.length then loadL fs (acc ++ [⟨f.1, f.2, f.2.length⟩]) else none
def loadM (fs : List (ByteArray × List UInt8)) : Option DM := if 16 < fs.length then none else (loadL fs []).map fun l => ⟨l, false, 0⟩
theorem loadL_len : ∀ (fs : List (ByteArray × List UInt8)) (acc l : List FM), loadL fs acc = some l → l.length = acc.length + fs.length ∧ totM l = totM acc + (fs.map fun f => f.2.length).sum := by
  intro fs
  induction fs with
  | nil => intro acc l h; simp only [loadL, Option.some.injEq] at h; subst h; simp
  | cons f fs ih =>
    intro acc l h
    unfold loadL at h
    split at h
    · obtain ⟨h1, h2⟩ := ih _ _ h
      simp [totM] at h1 h2 ⊢
      omega
    · cases h
theorem loadL_step (fs : List (ByteArray × List UInt8)) (k : Nat) (h : k < fs.length) (acc : List FM) : loadL (fs.drop k) acc = if namedB fs[k].1 = true ∧ placeF acc fs[k].1 = acc.length then loadL (fs.drop (k + 1)) (acc ++ [⟨fs[k].1, fs[k].2, fs[k].2.length⟩]) else none := by
  rw [List.drop_eq_getElem_cons h]
  rfl

theorem findI_lt (fs : List FM) (s : ByteArray) : (placeF fs s = fs.length ∧ findI fs s = -1) ∨ (placeF fs s ≠ fs.length ∧ 0 ≤ findI fs s) := by
  rcases findI_cases fs s with ⟨k, hk, hp, hf⟩ | ⟨hp, hf⟩
  · exact .inr ⟨by omega, by omega⟩
  · exact .inl ⟨hp, hf⟩

/-- one file more -/
theorem FilesAt.push2 {T : TypeId} {w : World} {F G : Nat → Prop} {v : Value} {fs : List FM} (h : FilesAt T w F v fs) {P : Program} (hT : T ≠ 5) (t ty : TypeId) (i : TypeInfo) (ht : P.underlying t = some (.slice T)) (hi : P.info? T = some i) {z : Value} (hz : i.zero = some z) (hsize : i.size = 3) {by_ : Nat} (hby : i.bytes = by_) (hby2 : by_ ≤ 4096) (hzs : z.cells.size = 3)
    (hlt : ∀ k, F k → k < w.heap.size) (f : FM) (dv : Value) (hd : Dat w dv f.data) (hsf : f.safe ≤ f.data.length) (hdF : ∀ k, dv.ownBlock = some k → G k ∧ ¬ F k) (hFG : ∀ k, F k → G k)
    {b o c : Nat} (hnews : ∀ j u, [Value.string f.name, dv, .int .i64 (f.safe : Int)][j]? = some u → w.cell? ((⟨b, o, none⟩ : Addr).add j) = some u) (hlen : fs.length ≤ 1000) :
    ∃ v' w', (Builtin.append_ #[t, t] ty #[v, .slice (some ⟨b, o, none⟩) 1 c]).run P w = .ok v' w' ∧ FilesAt T w' (Ext G w w') v' (fs ++ [f]) ∧ w.grownBy w' v.ownBlock := by
  obtain ⟨ps, h1, h2, h3, h4, h5⟩ := h
  have hps : ps.length = fs.length := by rw [← h1]; simp
  have hbytes : (fs.length + 1) * by_ ≤ 140737488355328 := by
    have : (fs.length + 1) * by_ ≤ 1001 * 4096 := Nat.mul_le_mul (by omega) hby2
    omega
  obtain ⟨v', w', hrun, hown, hgr, _, hat⟩ := run_append_own_at (P := P) w 0 t ty T i z 3 by_ ht hi hz hsize hby hzs (by omega) v fs.length (fcells ps) h2 ⟨b, o, none⟩ 1 c [.string f.name, dv, .int .i64 (f.safe : Int)]
    rfl hnews (fun u hu => by
      simp only [List.mem_cons, List.not_mem_nil, or_false] at hu
      rcases hu with rfl | rfl | rfl
      · rfl
      · exact hd.one
      · rfl) (by simp only [maxLen]; omega) hbytes (Nat.zero_le _)
  have hvT : ∀ k, v.ownBlock = some k → ∃ cs, w.heap[k]? = some (.cells cs T (0, 0)) := fun k hk => by
    rcases h2.2 with ⟨rfl, h0⟩ | ⟨g, cap, cur, rfl, hB, hg, hn, hm, hs, ht⟩
    · simp [Value.ownBlock] at hk
    · simp only [Value.ownBlock, Option.some.injEq] at hk; subst hk; exact ⟨_, hg⟩
  have hkeep : ∀ x l, Dat w x l → Dat w' x l := fun x l hx => hx.keep fun k hk => hgr.block k (hx.lt k hk) fun e => by
    obtain ⟨cs, hcs⟩ := hvT k e.symm
    exact hx.ne hcs hT hk
  have hgetp : ∀ j q, (ps ++ [(f, dv)])[j]? = some q → (j < ps.length ∧ ps[j]? = some q) ∨ (j = ps.length ∧ q = (f, dv)) := fun j q hq => by
    by_cases e : j < ps.length
    · rw [List.getElem?_append_left e] at hq; exact .inl ⟨e, hq⟩
    · rw [List.getElem?_append_right (by omega)] at hq
      have : j - ps.length = 0 := by
        rcases Nat.eq_zero_or_pos (j - ps.length) with h | h
        · exact h
        · rw [List.getElem?_eq_none (by simp; omega)] at hq; cases hq
      rw [this] at hq
      simp at hq
      exact .inr ⟨by omega, hq.symm⟩
  refine ⟨v', w', hrun, ⟨ps ++ [(f, dv)], by simp [h1], ?_, fun k hk => ?_, fun j q hq => ?_, fun i j q r k hq hr hqk hrk => ?_⟩, hgr⟩
  · rw [fcells_append, List.length_append]; exact hown
  · rcases hat with e | e
    · exact .inl (hFG k (h3 k (e ▸ hk)))
    · rw [e] at hk; injection hk with hk; subst hk
      exact .inr ⟨Nat.le_refl _, (World.ownsRow.lt hown _ e).2⟩
  · rcases hgetp j q hq with ⟨_, hq⟩ | ⟨_, rfl⟩
    · have := h4 j q hq
      exact ⟨hkeep _ _ this.1, this.2.1, fun k hk => .inl (hFG k (this.2.2 k hk))⟩
    · exact ⟨hkeep _ _ hd, hsf, fun k hk => .inl (hdF k hk).1⟩
  · rcases hgetp i q hq with ⟨hi, hq⟩ | ⟨rfl, rfl⟩ <;> rcases hgetp j r hr with ⟨hj, hr⟩ | ⟨rfl, rfl⟩
    · exact h5 _ _ _ _ k hq hr hqk hrk
    · exact absurd ((h4 _ _ hq).2.2 k hqk) (hdF k hrk).2
    · exact absurd ((h4 _ _ hr).2.2 k hrk) (hdF k hqk).2
    · rfl

/-- a disk's row of files with one more, its bytes in a row of the call's own -/
theorem DiskAt.push2 {w w2 : World} {F : Nat → Prop} {d : Nat} {m : DM} (h : DiskAt w F d m) (s : ByteArray) (l : List UInt8) (dv : Value) (hb2 : Below w.heap.size w w2) (ho : Own w2 w.heap.size dv l) (hlen : m.files.length ≤ 1000) (t ty : TypeId) (ht : Try.prog.underlying t = some (.slice 70)) :
    ∃ fv A c w', w.cell? ⟨d, 0, none⟩ = some fv ∧ (Builtin.append_ #[t, t] ty #[fv, .slice (some ⟨w2.heap.size, 0, none⟩) 1 1]).run Try.prog (w2.alloc (.cells #[.string s, dv, .int .i64 (l.length : Int)] 70)) = .ok (.slice A (m.files.length + 1) c) w' ∧
      w'.cell? ⟨d, 0, none⟩ = some fv ∧ w'.frozen? ⟨d, 0, none⟩ = false ∧ DiskAt (w'.setCell ⟨d, 0, none⟩ (.slice A (m.files.length + 1) c)) (Ext F w (w'.setCell ⟨d, 0, none⟩ (.slice A (m.files.length + 1) c))) d { m with files := m.files ++ [⟨s, l, l.length⟩] } ∧ Chg w (w'.setCell ⟨d, 0, none⟩ (.slice A (m.files.length + 1) c)) F := by
  obtain ⟨i0, hi, hz, hsz, hby⟩ := info_parts Try.infoFile
  obtain ⟨fv, u, hd, hFd, hfl, hlt, hl⟩ := h
  have hal0 : Below w2.heap.size w2 (w2.alloc (.cells #[.string s, dv, .int .i64 (l.length : Int)] 70)) := (Below.refl _ _).alloc (Nat.le_refl _) _
  have hal : Below w.heap.size w (w2.alloc (.cells #[.string s, dv, .int .i64 (l.length : Int)] 70)) := hb2.trans (hal0.mono hb2.size)
  have hfl' : FilesAt 70 (w2.alloc (.cells #[.string s, dv, .int .i64 (l.length : Int)] 70)) F fv m.files := hfl.keep fun k hk _ => hal.block k hk
  have hd' := (hal.block d (blk_lt hd)).trans hd
  have hapart := hfl.apart hd (by decide) (by decide)
  have hfv : ∀ k, fv.ownBlock = some k → F k ∧ k ≠ d := by obtain ⟨ps, _, _, h3, _⟩ := hapart; exact h3
  have ho2 := ho.below hal0
  obtain ⟨v', w', hrun, hf2, hg2⟩ := hfl'.push2 (P := Try.prog) (G := Ext F w w2) (by decide) t ty i0 ht hi hz hsz hby (by omega) rfl (fun k hk => Nat.lt_of_lt_of_le (hlt k hk) hal.size) ⟨s, l, l.length⟩ dv ho2.dat (Nat.le_refl _)
    (fun k hk => ⟨.inr (ho.lt k hk), fun hF => by have := hlt k hF; have := (ho.lt k hk).1; omega⟩) (fun k hk => .inl hk)
    (b := w2.heap.size) (o := 0) (c := 1) (fun j x hj => by
      have hb := heap_alloc_new w2 (.cells #[.string s, dv, .int .i64 (l.length : Int)] 70)
      rw [addr_add_none', Nat.zero_add, blk_cell hb j]
      simpa using hj) hlen
  obtain ⟨A, c, rfl, _⟩ := hf2.form
  have hne : fv.ownBlock ≠ some d := fun e => (hfv d e).2 rfl
  have hdl := blk_lt hd'
  have hd2 := (hg2.block d hdl fun e => hne e.symm).trans hd'
  have hfl2 : (m.files ++ [(⟨s, l, l.length⟩ : FM)]).length = m.files.length + 1 := by simp
  rw [hfl2] at hrun hf2
  have hsz : (w'.setCell ⟨d, 0, none⟩ (.slice A (m.files.length + 1) c)).heap.size = w'.heap.size := by simp [World.setCell]
  have hc : Chg w (w'.setCell ⟨d, 0, none⟩ (.slice A (m.files.length + 1) c)) F :=
    ((Chg.of_below hal F).trans' (Chg.of_grown hg2 fun k hk => (hfv k hk).1)).trans' (Chg.set w' (p := ⟨d, 0, none⟩) hFd _)
  refine ⟨fv, A, c, w', blk_cell hd 0, hrun, blk_cell hd2 0, blk_free hd2 0, ⟨⟨_, u, blk_set hd2 0 _, .inl hFd, ?_, Ext.lt hlt hc.size, hl⟩, hc⟩⟩
  have hf3 : FilesAt 70 w' (Ext F w w') (.slice A (m.files.length + 1) c) (m.files ++ [⟨s, l, l.length⟩]) := hf2.mono fun k hk =>
    hk.elim (fun h => h.imp id fun h => ⟨h.1, Nat.lt_of_lt_of_le h.2 (Nat.le_trans hal0.size hg2.size)⟩) fun h => .inr ⟨Nat.le_trans hal.size h.1, h.2⟩
  exact (hf3.set_apart hd2 (by decide) (by decide) 0 _).mono fun k hk => hk.imp id fun hk => ⟨hk.1, by rw [hsz]; exact hk.2⟩

end Go.Proofs.Ytbbpkenbeenocaa
