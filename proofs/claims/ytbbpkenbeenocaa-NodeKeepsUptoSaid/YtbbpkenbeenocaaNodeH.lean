
/- A node of the program with its disk, in blocks that S names; its calls; a nil node. -/
import Derived.Test.YtbbpkenbeenocaaNodeD
namespace Go.Proofs.Ytbbpkenbeenocaa
set_option maxRecDepth 100000
open Go Go.RowKit
set_option linter.unusedVariables false
variable {w w' : World} {F S G : Nat → Prop} {nd d cnt : Nat} {bad : Bool} {m : DM}

def NodeIn (w : World) (S : Nat → Prop) (nd d cnt : Nat) (bad : Bool) (m : DM) : Prop :=
  ∃ F, DiskAt w F d m ∧ NodeIs w nd d cnt bad ∧ ¬ F nd ∧ (∀ k, F k → S k) ∧ S nd ∧ ∀ k, S k → k < w.heap.size
theorem NodeIn.lt (h : NodeIn w S nd d cnt bad m) : ∀ k, S k → k < w.heap.size := by obtain ⟨_, _, _, _, _, _, h⟩ := h; exact h
theorem NodeIn.disk (h : NodeIn w S nd d cnt bad m) : ∃ F, DiskAt w F d m ∧ ∀ k, F k → S k := by obtain ⟨F, h1, _, _, h2, _⟩ := h; exact ⟨F, h1, h2⟩
theorem NodeIn.node (h : NodeIn w S nd d cnt bad m) : NodeIs w nd d cnt bad := by obtain ⟨_, _, h, _⟩ := h; exact h
theorem NodeIn.keep (h : NodeIn w S nd d cnt bad m) (hc : Chg w w' G) (hn : ∀ k, S k → ¬ G k) : NodeIn w' S nd d cnt bad m := by
  obtain ⟨F, h1, h2, h3, h4, h5, h6⟩ := h
  exact ⟨F, h1.keep hc fun k hk => hn k (h4 k hk), h2.chg hc (hn nd h5), h3, h4, h5, fun k hk => Nat.lt_of_lt_of_le (h6 k hk) hc.size⟩
theorem NodeIn.below (h : NodeIn w S nd d cnt bad m) (hb : Below w.heap.size w w') : NodeIn w' S nd d cnt bad m := h.keep (G := fun _ => False) (.of_below hb _) fun _ _ => id
theorem NodeIn.al (h : NodeIn w S nd d cnt bad m) (o : Obj) : NodeIn (w.alloc o) S nd d cnt bad m := h.below ((Below.refl _ _).alloc (Nat.le_refl _) _)
theorem NodeIn.mono (h : NodeIn w S nd d cnt bad m) (hS : ∀ k, S k → G k) (hG : ∀ k, G k → k < w.heap.size) : NodeIn w G nd d cnt bad m := by
  obtain ⟨F, h1, h2, h3, h4, h5, h6⟩ := h
  exact ⟨F, h1, h2, h3, fun k hk => hS k (h4 k hk), hS nd h5, hG⟩
/-- a node that Open made -/
theorem NodeIn.made (h : DiskAt w' F d m) (hc : Chg w w' F) (hF : ∀ k, F k → k < w.heap.size) (hn : NodeIs w' nd d cnt bad) (hl : w.heap.size ≤ nd) : NodeIn w' (Ext F w w') nd d cnt bad m :=
  ⟨F, h, hn, fun hf => by have := hF nd hf; omega, fun k hk => .inl hk, .inr ⟨hl, blk_lt hn⟩, Ext.lt hF hc.size⟩

theorem Own.chg {B : Nat} {v : Value} {l : List UInt8} (h : Own w B v l) (hc : Chg w w' F) (hF : ∀ k, F k → k < B) : Own w' B v l := by
  refine ⟨h.1, ?_⟩
  rcases h.2 with h0 | ⟨g, cap, cur, hv, hB, hg, rest⟩
  · exact .inl h0
  · exact .inr ⟨g, cap, cur, hv, hB, (hc.block g (blk_lt hg) fun hf => by have := hF g hf; omega).trans hg, rest⟩
theorem OutR.chg {B : Nat} {v : Value} {l : List (List UInt8)} (h : OutR w B v l) (hc : Chg w w' F) (hF : ∀ k, F k → k < B) : OutR w' B v l :=
  h.keep fun k hB hk => hc.block k hk fun hf => by have := hF k hf; omega
theorem narm_in (h : NodeIn w S nd d cnt bad m) (n : Int) (hn : -9223372036854775808 ≤ n ∧ n ≤ 9223372036854775807) :
    Calls Try.prog 18 #[.pointer (some ⟨d, 0, none⟩), .int .i64 n] w fun e w' => e = .returned (.tuple #[]) ∧ Chg w w' S ∧ NodeIn w' S nd d cnt bad (armM m n) := by
  obtain ⟨F, h1, h2, h3, h4, h5, h6⟩ := h
  refine (arm_any h1 n hn).mono ?_
  rintro e w' ⟨rfl, q1, q2⟩
  exact ⟨rfl, q2.mono fun k _ => h4 k, F, q1, h2.chg q2 h3, h3, h4, h5, fun k hk => Nat.lt_of_lt_of_le (h6 k hk) q2.size⟩
theorem nread_in (h : NodeIn w S nd d cnt bad m) (s : ByteArray) (hlen : ∀ f ∈ m.files, f.data.length ≤ 140737488355320) {l : List UInt8} {x : Int} (he : readM m s = (l, x)) :
    Calls Try.prog 28 #[.pointer (some ⟨d, 0, none⟩), .string s] w fun e w' => ∃ A c, e = .returned (.tuple #[.slice A l.length c, .int .i64 x]) ∧ Own w' w.heap.size (.slice A l.length c) l ∧ Below w.heap.size w w' := by
  obtain ⟨F, h1, _⟩ := h.disk
  refine (read_any h1 s hlen).mono ?_
  rintro e w' ⟨v, rfl, q1, q2⟩
  rw [he] at q1 ⊢
  obtain ⟨A, c, rfl⟩ := q1.form
  exact ⟨A, c, rfl, q1, q2⟩
theorem nput_in (h : NodeIn w S nd d cnt bad m) (rv : Value) (r : List UInt8) (hr : Rd w w.heap.size rv r) (hrl : r.length ≤ 10000000) (hg : GoodL m.files) (ht : totM m.files ≤ 100000000) (hc : cnt ≤ 1000000000) :
    Calls Try.prog 14 #[.pointer (some ⟨nd, 0, none⟩), rv] w fun e w' =>
      e = .returned (.int .i64 (if bad = true then 52 else (putE r m).1)) ∧ Chg w w' S ∧
      NodeIn w' (Ext S w w') nd d (if bad = true then cnt else if (putE r m).1 = 0 then cnt + 1 else cnt) (if bad = true then true else if (putE r m).1 = 0 then false else true) (if bad = true then m else (putE r m).2) := by
  have hS := h.lt
  have h0 := h
  obtain ⟨F, h1, h2, h3, h4, h5, h6⟩ := h
  cases bad with
  | true =>
    refine (nput_sick h2 rv r F m).mono ?_
    intro e w' hq
    unfold PutOk at hq
    rw [if_pos rfl] at hq
    obtain ⟨rfl, hb⟩ := hq
    exact ⟨rfl, .of_below hb _, (h0.below hb).mono (fun k => .inl) (Ext.lt hS hb.size)⟩
  | false =>
    refine (nput_well h1 h2 h3 rv r hr hrl hg ht hc).mono ?_
    intro e w' hq
    unfold PutOk at hq
    rw [if_neg (by decide)] at hq
    obtain ⟨rfl, q1, q2, q3⟩ := hq
    refine ⟨rfl, q2.mono fun k _ hk => hk.elim (h4 k) (fun e => e ▸ h5), ⟨_, q1, q3, fun hk => ?_, fun k hk => hk.imp (h4 k) id, .inl h5, Ext.lt hS q2.size⟩⟩
    rcases hk with hk | hk
    · exact h3 hk
    · have := blk_lt h2; omega

theorem nput_ok (h : NodeIn w S nd d cnt false m) (rv : Value) (r : List UInt8) (hr : Rd w w.heap.size rv r) (hrl : r.length ≤ 10000000) (hg : GoodL m.files) (ht : totM m.files ≤ 100000000) (hc : cnt ≤ 1000000000) {m' : DM} (he : putE r m = (0, m')) :
    Calls Try.prog 14 #[.pointer (some ⟨nd, 0, none⟩), rv] w fun e w' =>
      e = .returned (.int .i64 0) ∧ Chg w w' S ∧ NodeIn w' (Ext S w w') nd d (cnt + 1) false m' := by
  refine (nput_in h rv r hr hrl hg ht hc).mono ?_
  rintro e w' ⟨rfl, q1, q2⟩
  rw [he] at q2 ⊢
  exact ⟨rfl, q1, q2⟩
theorem nput_err (h : NodeIn w S nd d cnt false m) (rv : Value) (r : List UInt8) (hr : Rd w w.heap.size rv r) (hrl : r.length ≤ 10000000) (hg : GoodL m.files) (ht : totM m.files ≤ 100000000) (hc : cnt ≤ 1000000000) {x : Int} {m' : DM} (hx : ¬ x = 0) (he : putE r m = (x, m')) :
    Calls Try.prog 14 #[.pointer (some ⟨nd, 0, none⟩), rv] w fun e w' =>
      e = .returned (.int .i64 x) ∧ Chg w w' S ∧ NodeIn w' (Ext S w w') nd d cnt true m' := by
  refine (nput_in h rv r hr hrl hg ht hc).mono ?_
  rintro e w' ⟨rfl, q1, q2⟩
  rw [he] at q2 ⊢
  dsimp only at q2 ⊢
  rw [if_neg hx, if_neg hx, if_neg (by decide)] at q2
  exact ⟨rfl, q1, q2⟩

theorem count_any (h : NodeIs w nd d cnt bad) : Calls Try.prog 16 #[.pointer (some ⟨nd, 0, none⟩)] w fun e w' => e = .returned (.int .i64 (cnt : Int)) ∧ w = w' := by
  have c1 : w.cell? ⟨nd, 1, none⟩ = some (.int .i64 (cnt : Int)) := blk_cell h 1
  clear h
  go_enter Try.func16, Try.ntmps16
  go_wp2_with fail
  go_ret
  exact ⟨rfl, rfl⟩
theorem sick_any (h : NodeIs w nd d cnt bad) : Calls Try.prog 17 #[.pointer (some ⟨nd, 0, none⟩)] w fun e w' => e = .returned (.bool bad) ∧ w = w' := by
  have c1 : w.cell? ⟨nd, 2, none⟩ = some (.bool bad) := blk_cell h 2
  clear h
  go_enter Try.func17, Try.ntmps17
  go_wp2_with fail
  go_ret
  exact ⟨rfl, rfl⟩
theorem count_none (w : World) : Calls Try.prog 16 #[.pointer none] w fun e w' => e = .returned (.int .i64 0) ∧ w = w' := by
  go_enter Try.func16, Try.ntmps16
  go_wp2_with fail
  go_ret
  exact ⟨rfl, rfl⟩
theorem sick_none (w : World) : Calls Try.prog 17 #[.pointer none] w fun e w' => e = .returned (.bool false) ∧ w = w' := by
  go_enter Try.func17, Try.ntmps17
  go_wp2_with fail
  go_ret
  exact ⟨rfl, rfl⟩
theorem nput_none (w : World) (rv : Value) : Calls Try.prog 14 #[.pointer none, rv] w fun e w' => e = .returned (.int .i64 1) ∧ Below w.heap.size w w' := by
  have hb := (Below.refl w.heap.size w).alloc (Nat.le_refl _) (.cells #[.pointer none] 32)
  have c0 : (w.alloc (.cells #[.pointer none] 32)).cell? ⟨w.heap.size, 0, none⟩ = some (.pointer none) := blk_cell (heap_alloc_new w _) 0
  have HB := Lib.hid hb
  clear hb
  go_enter Try.func14, Try.ntmps14
  go_wp2_with fail
  go_ret
  exact ⟨rfl, HB.out⟩
theorem nopen_none (w : World) : Calls Try.prog 11 #[.pointer none] w fun e w' => e = .returned (.tuple #[.pointer none, .slice none 0 0, .int .i64 1]) ∧ w = w' := by
  go_enter Try.func11, Try.ntmps11
  go_wp2_with fail
  go_ret3
  exact ⟨rfl, rfl⟩
end Go.Proofs.Ytbbpkenbeenocaa
