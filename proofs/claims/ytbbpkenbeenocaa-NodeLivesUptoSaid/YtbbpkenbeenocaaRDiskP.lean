
/- The document's disk: a row of files with one more. -/
import Derived.Test.YtbbpkenbeenocaaRDiskC
import Derived.Test.YtbbpkenbeenocaaDiskQ
namespace Go.Proofs.Ytbbpkenbeenocaa
set_option maxRecDepth 100000
open Go Go.RowKit
set_option linter.unusedVariables false

/-- a disk of the document's in blocks from B on, at d -/
def RefFrom (w : World) (B d : Nat) (m : DM) : Prop := ∃ F, RefAt w F d m ∧ ∀ k, F k → B ≤ k
/-- a disk's row of files with one more, its bytes in a row of the call's own -/
theorem RefAt.push2 {w w2 : World} {F : Nat → Prop} {d : Nat} {m : DM} (h : RefAt w F d m) (s : ByteArray) (l : List UInt8) (dv : Value) (hb2 : Below w.heap.size w w2) (ho : Own w2 w.heap.size dv l) (hlen : m.files.length ≤ 1000) (t ty : TypeId) (ht : Try.prog.underlying t = some (.slice 76)) :
    ∃ fv A c w', w.cell? ⟨d, 0, none⟩ = some fv ∧ (Builtin.append_ #[t, t] ty #[fv, .slice (some ⟨w2.heap.size, 0, none⟩) 1 1]).run Try.prog (w2.alloc (.cells #[.string s, dv, .int .i64 (l.length : Int)] 76)) = .ok (.slice A (m.files.length + 1) c) w' ∧
      w'.cell? ⟨d, 0, none⟩ = some fv ∧ w'.frozen? ⟨d, 0, none⟩ = false ∧ RefAt (w'.setCell ⟨d, 0, none⟩ (.slice A (m.files.length + 1) c)) (Ext F w (w'.setCell ⟨d, 0, none⟩ (.slice A (m.files.length + 1) c))) d { m with files := m.files ++ [⟨s, l, l.length⟩] } ∧ Chg w (w'.setCell ⟨d, 0, none⟩ (.slice A (m.files.length + 1) c)) F := by
  obtain ⟨i0, hi, hz, hsz, hby⟩ := info_parts Try.infoRFile
  obtain ⟨fv, u, hd, hFd, hfl, hlt, hl⟩ := h
  have hal0 : Below w2.heap.size w2 (w2.alloc (.cells #[.string s, dv, .int .i64 (l.length : Int)] 76)) := (Below.refl _ _).alloc (Nat.le_refl _) _
  have hal : Below w.heap.size w (w2.alloc (.cells #[.string s, dv, .int .i64 (l.length : Int)] 76)) := hb2.trans (hal0.mono hb2.size)
  have hfl' : FilesAt 76 (w2.alloc (.cells #[.string s, dv, .int .i64 (l.length : Int)] 76)) F fv m.files := hfl.keep fun k hk _ => hal.block k hk
  have hd' := (hal.block d (blk_lt hd)).trans hd
  have hapart := hfl.apart hd (by decide) (by decide)
  have hfv : ∀ k, fv.ownBlock = some k → F k ∧ k ≠ d := by obtain ⟨ps, _, _, h3, _⟩ := hapart; exact h3
  have ho2 := ho.below hal0
  obtain ⟨v', w', hrun, hf2, hg2⟩ := hfl'.push2 (P := Try.prog) (G := Ext F w w2) (by decide) t ty i0 ht hi hz hsz hby (by omega) rfl (fun k hk => Nat.lt_of_lt_of_le (hlt k hk) hal.size) ⟨s, l, l.length⟩ dv ho2.dat (Nat.le_refl _)
    (fun k hk => ⟨.inr (ho.lt k hk), fun hF => by have := hlt k hF; have := (ho.lt k hk).1; omega⟩) (fun k hk => .inl hk)
    (b := w2.heap.size) (o := 0) (c := 1) (fun j x hj => by
      have hb := heap_alloc_new w2 (.cells #[.string s, dv, .int .i64 (l.length : Int)] 76)
      rw [addr_add_none', Nat.zero_add, blk_cell hb j]
      simpa using hj) hlen
  obtain ⟨A, c, rfl, _⟩ := hf2.form
  have hne : fv.ownBlock ≠ some d := fun e => (hfv d e).2 rfl
  have hdl := blk_lt hd'
  have hd2 := (hg2.block d hdl fun e => hne e.symm).trans hd'
  have hfl2 : (m.files ++ [(⟨s, l, l.length⟩ : FM)]).length = m.files.length + 1 := by simp
  rw [hfl2] at hrun hf2
  have hsz : (w'.setCell ⟨d, 0, none⟩ (.slice A (m.files.length + 1) c)).heap.size = w'.heap.size := by simp [World.setCell]
  have hc : Chg w (w'.setCell ⟨d, 0, none⟩ (.slice A (m.files.length + 1) c)) F :=
    ((Chg.of_below hal F).trans' (Chg.of_grown hg2 fun k hk => (hfv k hk).1)).trans' (Chg.set w' (p := ⟨d, 0, none⟩) hFd _)
  refine ⟨fv, A, c, w', blk_cell hd 0, hrun, blk_cell hd2 0, blk_free hd2 0, ⟨⟨_, u, blk_set hd2 0 _, .inl hFd, ?_, Ext.lt hlt hc.size, hl⟩, hc⟩⟩
  have hf3 : FilesAt 76 w' (Ext F w w') (.slice A (m.files.length + 1) c) (m.files ++ [⟨s, l, l.length⟩]) := hf2.mono fun k hk =>
    hk.elim (fun h => h.imp id fun h => ⟨h.1, Nat.lt_of_lt_of_le h.2 (Nat.le_trans hal0.size hg2.size)⟩) fun h => .inr ⟨Nat.le_trans hal.size h.1, h.2⟩
  exact (hf3.set_apart hd2 (by decide) (by decide) 0 _).mono fun k hk => hk.imp id fun hk => ⟨hk.1, by rw [hsz]; exact hk.2⟩

end Go.Proofs.Ytbbpkenbeenocaa
