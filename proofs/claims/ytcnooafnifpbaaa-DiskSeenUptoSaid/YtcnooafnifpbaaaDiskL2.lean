/- The law DiskSafe, walked. -/
import Derived.Test.YtcnooafnifpbaaaDiskG
import Derived.Test.YtcnooafnifpbaaaDiskN
import Derived.Laws.Concat
namespace Go.Proofs.Ytcnooafnifpbaaa
open Go Go.RowKit

variable {w w' : World} {F : Nat → Prop} {d : Nat} {m : DM} {B : Nat}
def sX : ByteArray := ⟨#[120]⟩
def safM (data : List UInt8) (safe : Nat) : DM := ⟨[⟨sX, data, safe⟩], false, 0⟩
theorem saf1 (a : List UInt8) : appendM ⟨[], false, 0⟩ sX a = (0, safM a 0) := rfl
theorem saf2 (a : List UInt8) : syncM (safM a 0) sX = (0, safM a a.length) := rfl
theorem saf3 (a b : List UInt8) (n : Nat) : appendM (safM a n) sX b = (0, safM (a ++ b) n) := rfl
theorem saf4 (a : List UInt8) (n : Nat) (keep : List Bool) : crashM (safM a n).files keep = [(sX, remM ⟨sX, a, n⟩ keep)] := rfl
theorem saf5 (a : List UInt8) (n : Nat) : readM (safM a n) sX = (a, 0) := rfl

/-- a row of truths in a block of its own -/
def LBlk (w : World) (g : Nat) (l : List Bool) : Prop := w.heap[g]? = some (.cells (l.map Value.bool).toArray 4 (0, 0))
theorem LBlk.rdL {g n : Nat} {l : List Bool} (h : LBlk w g l) (hn : n = l.length) (hm : n ≤ maxLen) : RdL w w.heap.size (.slice (some ⟨g, 0, none⟩) n n) l := by
  subst hn
  refine ⟨_, _, rfl, Nat.le_refl _, hm, fun _ => ⟨g, 0, rfl, blk_lt h, fun j hj => ?_⟩⟩
  rw [blk_cell h]
  simp [List.getElem?_eq_getElem hj]
theorem LBlk.set {g : Nat} {l : List Bool} (h : LBlk w g l) (k : Nat) (b : Bool) : LBlk (w.setCell ⟨g, k, none⟩ (.bool b)) g (l.set k b) := by
  unfold LBlk
  rw [blk_set h, List.map_set]
  simp
theorem fill_set (n k : Nat) (h : k < n) : (List.replicate k true ++ List.replicate (n - k) false).set k true = List.replicate (k + 1) true ++ List.replicate (n - (k + 1)) false := by
  have e : n - k = (n - (k + 1)) + 1 := by omega
  rw [e, List.replicate_succ, List.set_append_right _ _ (by simp), List.length_replicate, Nat.sub_self, List.set_cons_zero, List.replicate_succ', List.append_assoc]
  rfl
theorem made_bools (n : Nat) : madeCells (Value.bool false).cells (n * 1) = Array.replicate n (Value.bool false) := by
  apply Array.ext
  · simp [size_madeCells]
  · intro i h1 h2
    simp [madeCells, Value.cells, Nat.mod_one]
theorem LBlk.made (w : World) (n : Nat) : LBlk (w.alloc (.cells (Array.replicate n (Value.bool false)) 4)) w.heap.size (List.replicate 0 true ++ List.replicate (n - 0) false) := by
  have e : ((List.replicate 0 true ++ List.replicate (n - 0) false).map Value.bool).toArray = Array.replicate n (Value.bool false) := by simp
  unfold LBlk
  rw [e]
  exact heap_alloc_new w _
theorem LBlk.at_ {g n k : Nat} (h : LBlk w g (List.replicate k true ++ List.replicate (n - k) false)) (hk : k < n) : w.cell? ⟨g, k, none⟩ = some (.bool false) := by
  rw [blk_cell h]
  have e : (List.replicate k true ++ List.replicate (n - k) false)[k]? = some false := by
    rw [List.getElem?_append_right (by simp), List.length_replicate, Nat.sub_self, List.getElem?_replicate, if_pos (by omega)]
  simp only [List.getElem?_toArray, List.getElem?_map, e]
  rfl
theorem list_add' (l m : List UInt8) (h : l.length + m.length ≤ 9223372036854775807) (w : World) : (Op.stringOp .add ⟨l.toArray⟩ ⟨m.toArray⟩).run Try.prog w = .ok (.string ⟨(l ++ m).toArray⟩) w := by
  have := run_string_add_sum (P := Try.prog) (w := w) ⟨l.toArray⟩ ⟨m.toArray⟩ (by simpa [ByteArray.size] using h)
  rw [this]
  congr 2

set_option maxHeartbeats 1000000 in
theorem safe_any (w : World) (av bv kv : Value) (a b : List UInt8) (keep : List Bool) (ha : Rd w w.heap.size av a) (hb : Rd w w.heap.size bv b) (hk : RdL w w.heap.size kv keep) (hal : a.length ≤ 1048576) (hbl : b.length ≤ 1048576) :
    Calls Try.prog 4 #[av, bv, kv] w fun e w' => e = .returned (.bool true) ∧ Below w.heap.size w w' := by
  go_enter Try.func4, Try.ntmps4
  go_wp2_with fail
  refine (fixed_any _).mono ?_
  rintro e w0 ⟨rfl, hb0⟩
  have hs0 : w.heap.size ≤ w0.heap.size := hb0.size
  go_wp2_with fail
  refine (new_any _ (fun _ => False)).mono ?_
  rintro e w1 ⟨rfl, h1, hn1⟩
  obtain ⟨d, hd⟩ : ∃ d, d = w0.heap.size := ⟨_, rfl⟩
  obtain ⟨B, hB⟩ : ∃ B, B = w.heap.size := ⟨_, rfl⟩
  rw [← hd] at h1 hn1 hs0 ⊢
  rw [← hB] at ha hb hk hb0 hs0
  have HB := Lib.hid hB
  clear hB hd
  have hB1 : Below B w w1 := hb0.trans (hn1.mono hs0)
  have hs1 : B ≤ w1.heap.size := Nat.le_trans hs0 (Nat.le_of_lt (h1.lt d rfl))
  have hF1 : ∀ k, (fun k => k = d) k → B ≤ k := fun k hk => by have : k = d := hk; omega
  generalize (fun k => k = d) = F1 at *
  clear hb0 hn1
  go_wp2_with fail
  refine (append_any h1 sX (by decide) a av (RdF.old (ha.below hB1) hs1 hF1) (by simp) (by omega) (by simp)).mono ?_
  rintro e w2 ⟨rfl, h2, hc2⟩
  rw [saf1] at h2 ⊢
  obtain ⟨hF2, hB2, hs2⟩ := DiskAt.next hF1 hB1 hs1 hc2
  generalize Ext F1 _ w2 = F2 at *
  clear hc2 h1 hB1 hF1
  go_wp2_with fail
  refine (sync_any h2 sX).mono ?_
  rintro e w3 ⟨rfl, h3, hc3⟩
  rw [saf2] at h3 ⊢
  have hB3 := hB2.trans (hc3.below hF2 hs2)
  have hs3 := Nat.le_trans hs2 hc3.size
  clear hc3 hB2 h2
  go_wp2_with fail
  refine (append_any h3 sX (by decide) b bv (RdF.old (hb.below hB3) hs3 hF2) (by simp [safM]; omega) (by omega) (by simp [safM])).mono ?_
  rintro e w4 ⟨rfl, h4, hc4⟩
  rw [saf3] at h4 ⊢
  obtain ⟨hF4, hB4, hs4⟩ := DiskAt.next hF2 hB3 hs3 hc4
  generalize Ext F2 _ w4 = F4 at *
  clear hc4 h3 hB3 hF2
  go_wp2_with fail
  refine (crash_any h4 kv keep ((hk.below hB4).more hs4) (by simp [totM, safM]; omega) (by simp [safM])).mono ?_
  rintro e w5 ⟨v5, rfl, ho5, hb5⟩
  rw [saf4] at ho5
  have h5 := h4.below hb5
  have hB5 := hB4.trans (hb5.mono hs4)
  have hs5 : B ≤ w5.heap.size := Nat.le_trans hs4 hb5.size
  obtain ⟨A5, c5, rfl⟩ := ho5.form
  obtain ⟨g, o, dv, rfl, hg, k0, k1, ho⟩ := ho5.at_ 0 (by simp)
  simp at k0 k1 ho
  have hpre := remM_pre ⟨sX, a ++ b, a.length⟩ keep (by simp)
  have hle := remM_le ⟨sX, a ++ b, a.length⟩ keep (by simp)
  simp at hpre hle
  generalize remM ⟨sX, a ++ b, a.length⟩ keep = R at *
  obtain ⟨Ad, cd, rfl⟩ := ho.form
  obtain ⟨Aa, ca, rfl⟩ := ha.form
  obtain ⟨Ab, cb, rfl⟩ := hb.form
  clear hb5 h4 hB4 ho5
  have j1 : (a.length : Int) ≤ (R.length : Int) := by omega
  have j2 : (R.length : Int) ≤ (a.length : Int) + (b.length : Int) := by omega
  have j3 : (a.length : Int) ≤ 1048576 := by omega
  have j4 : (b.length : Int) ≤ 1048576 := by omega
  obtain ⟨i0, hi, hz, hsz, hby⟩ := info_parts Try.infoByte
  obtain ⟨la, hla⟩ : ∃ la, la = a.length := ⟨_, rfl⟩
  have hcd : R.length ≤ cd := by
    rcases ho.2 with ⟨e, h0⟩ | ⟨g, cap, cur, e, _, _, hn, _⟩
    · omega
    · injection e with _ _ e; omega
  have hsl : ∀ W : World, (Instr.slice 32 (.slice Ad R.length cd) none (some (.int .i64 (la : Int))) none).run Try.prog W = .ok (.slice Ad la cd) W := run_slice_to _ _ i0 Try.underlying32 hi Ad R.length cd la (by omega)
  have hcut : Rd w5 w5.heap.size (.slice Ad la cd) a := by
    have := (ho.dat.take (n := la) (c' := cd) (by omega) (.inl rfl)).rd
    rw [hla, hpre.1, ← hla] at this
    exact this
  have hq1 : ∀ k : Nat, (convert 32 9 (.slice Ad la cd)).run Try.prog (w5.drewN k) = .ok (.string ⟨a.toArray⟩) (w5.drewN k) := fun k => run_str (w := w5.drewN k) Try.underlying32 Try.underlying5 Try.isString hcut
  have hq2 : ∀ k : Nat, (convert 32 9 (.slice Aa la ca)).run Try.prog (w5.drewN k) = .ok (.string ⟨a.toArray⟩) (w5.drewN k) := fun k => run_str (w := w5.drewN k) Try.underlying32 Try.underlying5 Try.isString (by rw [hla]; exact (ha.below hB5).drewN k)
  rw [← hla] at j1 j2 j3 ⊢
  have HLA := Lib.hid hla
  have HPRE := Lib.hid hpre
  clear hla hpre
  obtain ⟨lr, hlr⟩ : ∃ lr, lr = R.length := ⟨_, rfl⟩
  rw [← hlr] at j1 j2 k1 hsl
  have HLR := Lib.hid hlr
  clear hlr
  obtain ⟨lb, hlb⟩ : ∃ lb, lb = b.length := ⟨_, rfl⟩
  rw [← hlb] at j2 j4 ⊢
  have HLB := Lib.hid hlb
  clear hlb
  have d1 : decide (lr < la) = false := by simp; omega
  have d2 : decide ((lr : Int) < (la : Int)) = false := by simp; omega
  have d3 : decide (la + lb < lr) = false := by simp; omega
  have d4 : decide ((la : Int) + (lb : Int) < (lr : Int)) = false := by simp; omega
  go_wp2_with fail
  go_quiet (fail)
  clear hsl hq1 hq2 hcut k0 k1 d1 d2 d3 d4 j1 j2
  obtain ⟨ib, hib, hibz, hibs, hibb⟩ := info_parts Try.infoBool
  have hmk : ∀ W : World, (Instr.makeSlice 33 (.int .i64 (lb : Int)) (.int .i64 (lb : Int))).run Try.prog W = .ok (.slice (some ⟨W.heap.size, 0, none⟩) lb lb) (W.alloc (.cells (Array.replicate lb (Value.bool false)) 4)) := fun W => by
    have hr := run_make (P := Try.prog) W 33 4 ib _ Try.underlying33 hib hibz .i64 .i64 lb lb (by omega) (Int.le_refl _) (by rw [hibb]; omega) (by omega)
    rw [hibs] at hr
    simp only [Int.toNat_natCast] at hr
    rw [made_bools] at hr
    exact hr
  have h6 : DiskAt (w5.drewN nq) F4 d (safM (a ++ b) a.length) := h5
  have hB6 : Below B w (w5.drewN nq) := below_drewN' hB5 nq
  have hs6 : B ≤ (w5.drewN nq).heap.size := hs5
  clear h5 hB5 ho hcd hs5
  generalize w5.drewN nq = w6 at *
  go_wp2_with fail
  clear hmk
  have h7 := h6.al (.cells (Array.replicate lb (Value.bool false)) 4)
  have hB7 : Below B w (w6.alloc (.cells (Array.replicate lb (Value.bool false)) 4)) := hB6.alloc hs6 _
  have hL7 := LBlk.made w6 lb
  have hs7 : B ≤ (w6.alloc (.cells (Array.replicate lb (Value.bool false)) 4)).heap.size := by simp; omega
  have hG : ∀ k, F4 k → k < w6.heap.size := h6.lt
  generalize w6.alloc (.cells (Array.replicate lb (Value.bool false)) 4) = w7 at *
  obtain ⟨G, hGe⟩ : ∃ G, G = w6.heap.size := ⟨_, rfl⟩
  rw [← hGe] at hL7 hG hs6 ⊢
  clear hGe h6 hB6
  go_loopw [10, 83] (fun _ i wr => ∃ k : Nat, k ≤ lb ∧ i = .int .i64 (k : Int) ∧ LBlk wr G (List.replicate k true ++ List.replicate (lb - k) false) ∧ DiskAt wr F4 d (safM (a ++ b) a.length) ∧ Below B w wr ∧ B ≤ wr.heap.size)
    (fun _ i _ => lb - (intOf i).toNat)
  case atStart => exact ⟨0, Nat.zero_le _, rfl, hL7, h7, hB7, hs7⟩
  case round =>
    obtain ⟨k, hk', rfl, hL, hD, hBr, hsr⟩ := hrel
    by_cases hlt : k < lb
    · have ck := hL.at_ hlt
      have zk : wr.frozen? ⟨G, k, none⟩ = false := blk_free hL k
      have i1 : (0 : Int) ≤ (k : Int) := by omega
      have i2 : (k : Int) < (lb : Int) := by omega
      have hset := hL.set k true
      rw [fill_set lb k hlt] at hset
      have hD2 : DiskAt (wr.setCell ⟨G, k, none⟩ (.bool true)) F4 d (safM (a ++ b) a.length) := hD.keep (Chg.set wr (F := fun j => j = G) (p := ⟨G, k, none⟩) rfl _) fun j hj e => by have := hG j hj; have : j = G := e; omega
      have hB2 := hBr.setCell (p := ⟨G, k, none⟩) hs6 (.bool true)
      have HX := Lib.hid (And.intro hset (And.intro hD2 (And.intro hB2 (show B ≤ (wr.setCell ⟨G, k, none⟩ (.bool true)).heap.size by simpa [World.setCell] using hsr))))
      clear hset hD2 hB2 hL hD hBr
      go_wp2_with fail
      exact ⟨⟨k + 1, by omega, by go_num, HX.out⟩, by simp [intOf]; omega⟩
    · obtain rfl : k = lb := by omega
      have i2 : ¬ (k : Int) < (k : Int) := by omega
      rw [Nat.sub_self, List.replicate_zero, List.append_nil] at hL
      go_wp2_with fail
      refine (crash_any hD _ (List.replicate k true) (hL.rdL (by simp) (by unfold maxLen; omega)) (by simp [totM, safM]; omega) (by simp [safM])).mono ?_
      rintro e w8 ⟨v8, rfl, ho8, hb8⟩
      rw [saf4, remM_all ⟨sX, a ++ b, a.length⟩ k (by simp; exact HLB.out)] at ho8
      have h8 := hD.below hb8
      have hB8 := hBr.trans (hb8.mono hsr)
      have hs8 : B ≤ w8.heap.size := Nat.le_trans hsr hb8.size
      obtain ⟨A8, c8, rfl⟩ := ho8.form
      clear hb8 hD hBr hL
      go_wp2_with fail
      refine (read_any h8 sX (by simp [safM]; omega)).mono ?_
      rintro e w9 ⟨v9, rfl, ho9, hb9⟩
      rw [saf5] at ho9 ⊢
      have ho9 : Own w9 w8.heap.size v9 (a ++ b) := ho9
      have ho8' := ho8.below hb9
      obtain ⟨g8, o8, dv8, rfl, hg8, k0, k1, hr8⟩ := ho8'.at_ 0 (by simp)
      simp at k0 k1 hr8
      have hB9 := hB8.trans (hb9.mono hs8)
      obtain ⟨N, eN⟩ : ∃ N, (a ++ b).length = N := ⟨_, rfl⟩
      obtain ⟨A9, c9, rfl⟩ := ho9.form' eN
      obtain ⟨Ad8, cd8, rfl⟩ := hr8.form' eN
      have q1 : ∀ k : Nat, (convert 32 9 (.slice Ad8 N cd8)).run Try.prog (w9.drewN k) = .ok (.string ⟨(a ++ b).toArray⟩) (w9.drewN k) := fun k => run_str (w := w9.drewN k) Try.underlying32 Try.underlying5 Try.isString hr8.rd
      have q2 : ∀ k : Nat, (convert 32 9 (.slice A9 N c9)).run Try.prog (w9.drewN k) = .ok (.string ⟨(a ++ b).toArray⟩) (w9.drewN k) := fun k => run_str (w := w9.drewN k) Try.underlying32 Try.underlying5 Try.isString ho9.rd
      have q3 : ∀ k : Nat, (convert 32 9 (.slice Aa la ca)).run Try.prog (w9.drewN k) = .ok (.string ⟨a.toArray⟩) (w9.drewN k) := fun k => run_str (w := w9.drewN k) Try.underlying32 Try.underlying5 Try.isString (by rw [HLA.out]; exact (ha.below hB9).drewN k)
      have q4 : ∀ j : Nat, (convert 32 9 (.slice Ab k cb)).run Try.prog (w9.drewN j) = .ok (.string ⟨b.toArray⟩) (w9.drewN j) := fun j => run_str (w := w9.drewN j) Try.underlying32 Try.underlying5 Try.isString (by rw [HLB.out]; exact (hb.below hB9).drewN j)
      have q5 : ∀ W : World, (Op.stringOp .add ⟨a.toArray⟩ ⟨b.toArray⟩).run Try.prog W = .ok (.string ⟨(a ++ b).toArray⟩) W := list_add' a b (by omega)
      have HX := Lib.hid hB9
      clear eN hB9 hB8 hb9 ho8 ho8' hr8 ho9 k0 h8
      go_wp2_with fail
      go_quiet (fail)
      clear q1 q2 q3 q4 q5
      go_wp2_with fail
      go_ret
      exact ⟨rfl, by rw [← HB.out]; exact below_drewN' HX.out _⟩
end Go.Proofs.Ytcnooafnifpbaaa
