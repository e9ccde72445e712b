
/- The program's node over its disk; steps handed in. -/
import Derived.Test.YtbbpkenbeenocaaNodeS
import Derived.Test.YtbbpkenbeenocaaNodeI
import Derived.Test.YtbbpkenbeenocaaDiskF
import Derived.Test.YtbbpkenbeenocaaDiskQ
namespace Go.Proofs.Ytbbpkenbeenocaa
set_option maxRecDepth 100000
open Go Go.RowKit
set_option linter.unusedVariables false
variable {w w' : World} {F S T G : Nat → Prop} {B nd d e cnt : Nat} {bad : Bool} {m : DM} {nv xv : Value} {st : Option (Nat × Bool)}

/-- a node's state behind Put: the answer, the count, is it sick, the disk -/
def putX (cnt : Nat) (bad : Bool) (r : List UInt8) (m : DM) : Int := if bad = true then 52 else (putE r m).1
def putC (cnt : Nat) (bad : Bool) (r : List UInt8) (m : DM) : Nat := if bad = true then cnt else if (putE r m).1 = 0 then cnt + 1 else cnt
def putB (cnt : Nat) (bad : Bool) (r : List UInt8) (m : DM) : Bool := if bad = true then true else if (putE r m).1 = 0 then false else true
def putM (cnt : Nat) (bad : Bool) (r : List UInt8) (m : DM) : DM := if bad = true then m else (putE r m).2

/-! the program's side -/
def LSide (w : World) (S : Nat → Prop) (d : Nat) (m : DM) (nv : Value) : Option (Nat × Bool) → Prop
  | none => nv = .pointer none ∧ ∃ F, DiskAt w F d m ∧ (∀ k, F k → S k) ∧ ∀ k, S k → k < w.heap.size
  | some (cnt, bad) => ∃ nd, nv = .pointer (some ⟨nd, 0, none⟩) ∧ NodeIn w S nd d cnt bad m
theorem LSide.lt (h : LSide w S d m nv st) : ∀ k, S k → k < w.heap.size := by
  cases st with
  | none => obtain ⟨_, F, _, _, h⟩ := h; exact h
  | some p => obtain ⟨nd, _, h⟩ := h; exact h.lt
theorem LSide.disk (h : LSide w S d m nv st) : ∃ F, DiskAt w F d m ∧ ∀ k, F k → S k := by
  cases st with
  | none => obtain ⟨_, F, h1, h2, _⟩ := h; exact ⟨F, h1, h2⟩
  | some p => obtain ⟨nd, _, h⟩ := h; exact h.disk
theorem LSide.keep (h : LSide w S d m nv st) (hc : Chg w w' G) (hn : ∀ k, S k → ¬ G k) : LSide w' S d m nv st := by
  cases st with
  | none => obtain ⟨h0, F, h1, h2, h3⟩ := h; exact ⟨h0, F, h1.keep hc fun k hk => hn k (h2 k hk), h2, fun k hk => Nat.lt_of_lt_of_le (h3 k hk) hc.size⟩
  | some p => obtain ⟨nd, h0, h⟩ := h; exact ⟨nd, h0, h.keep hc hn⟩
theorem LSide.mono (h : LSide w S d m nv st) (hS : ∀ k, S k → G k) (hG : ∀ k, G k → k < w.heap.size) : LSide w G d m nv st := by
  cases st with
  | none => obtain ⟨h0, F, h1, h2, h3⟩ := h; exact ⟨h0, F, h1, fun k hk => hS k (h2 k hk), hG⟩
  | some p => obtain ⟨nd, h0, h⟩ := h; exact ⟨nd, h0, h.mono hS hG⟩
theorem larm_any (h : LSide w S d m nv st) (n : Int) (hn : -9223372036854775808 ≤ n ∧ n ≤ 9223372036854775807) :
    Calls Try.prog 18 #[.pointer (some ⟨d, 0, none⟩), .int .i64 n] w fun e w' => e = .returned (.tuple #[]) ∧ Chg w w' S ∧ LSide w' S d (armM m n) nv st := by
  cases st with
  | none =>
    obtain ⟨h0, F, h1, h2, h3⟩ := h
    refine (arm_any h1 n hn).mono ?_
    rintro e w' ⟨rfl, q1, q2⟩
    exact ⟨rfl, q2.mono fun k _ => h2 k, h0, F, q1, h2, fun k hk => Nat.lt_of_lt_of_le (h3 k hk) q2.size⟩
  | some p =>
    obtain ⟨nd, h0, h⟩ := h
    refine (narm_in h n hn).mono ?_
    rintro e w' ⟨rfl, q1, q2⟩
    exact ⟨rfl, q1, nd, h0, q2⟩
theorem lput_any (h : NodeIn w S nd d cnt bad m) (rv : Value) (r : List UInt8) (hr : Rd w w.heap.size rv r) (hrl : r.length ≤ 10000000) (hg : GoodL m.files) (ht : totM m.files ≤ 100000000) (hc : cnt ≤ 1000000000) :
    Calls Try.prog 14 #[.pointer (some ⟨nd, 0, none⟩), rv] w fun e w' =>
      e = .returned (.int .i64 (putX cnt bad r m)) ∧ Chg w w' S ∧ NodeIn w' (Ext S w w') nd d (putC cnt bad r m) (putB cnt bad r m) (putM cnt bad r m) :=
  nput_in h rv r hr hrl hg ht hc
/-- what an Open leaves of a side -/
def openSt (r : Int × DM × List (List UInt8)) : Option (Nat × Bool) := if r.1 = 0 then some (r.2.2.length, false) else none
def LOpened (w : World) (S : Nat → Prop) (d : Nat) (r : Int × DM × List (List UInt8)) (e : Ending) (w' : World) : Prop :=
  ∃ nv A c, e = .returned (.tuple #[nv, .slice A r.2.2.length c, .int .i64 r.1]) ∧ LSide w' (Ext S w w') d r.2.1 nv (openSt r) ∧ OutR w' w.heap.size (.slice A r.2.2.length c) r.2.2 ∧ Chg w w' S
theorem open_bad {m : DM} (h : ¬ (openN m).1 = 0) : (openN m).2.2 = [] := by
  unfold openN at h ⊢
  split
  · rfl
  split
  · rfl
  · rename_i h0 _ rs hrs
    simp only [h0, hrs, Bool.false_eq_true, if_false] at h
    split
    · rename_i h1
      rw [if_pos h1] at h
      dsimp only at h ⊢
      split
      · rename_i h2; rw [if_pos h2] at h; exact absurd rfl h
      · rfl
    · rfl
theorem lopen_any (h : LSide w S d m nv st) (hlen : ∀ f ∈ m.files, f.data.length ≤ 1000000000) :
    Calls Try.prog 11 #[.pointer (some ⟨d, 0, none⟩)] w (LOpened w S d (openN m)) := by
  obtain ⟨F, h1, h2⟩ := h.disk
  have hlt := h.lt
  have hb := open_bad (m := m)
  refine (nopen_any h1 hlen).mono ?_
  intro e w' hq
  obtain ⟨hq, q2, q3⟩ := hq
  have hE : ∀ k, Ext S w w' k → k < w'.heap.size := Ext.lt hlt q3.size
  by_cases hx : (openN m).1 = 0
  · rw [if_pos hx] at hq
    obtain ⟨nd, rv, rfl, hnl, hn, hor⟩ := hq
    obtain ⟨A, c, rfl⟩ := hor.form
    refine ⟨_, A, c, by rw [hx], ?_, hor, q3.mono fun k _ => h2 k⟩
    unfold openSt
    rw [if_pos hx]
    exact ⟨nd, rfl, (NodeIn.made q2 q3 h1.lt hn hnl).mono (fun k hk => hk.imp (h2 k) id) hE⟩
  · rw [if_neg hx] at hq
    subst hq
    rw [LOpened, hb hx]
    refine ⟨_, none, 0, rfl, ?_, OutR.nil _ _, q3.mono fun k _ => h2 k⟩
    unfold openSt
    rw [if_neg hx]
    exact ⟨rfl, F, q2, fun k hk => .inl (h2 k hk), hE⟩

structure OpN where
  k : Int
  n : Int
  b : List UInt8
  ks : List Bool
  A1 : Option Addr
  c1 : Nat
  A2 : Option Addr
  c2 : Nat
structure OpN.At (o : OpN) (w : World) (B : Nat) : Prop where
  n : -9223372036854775808 ≤ o.n ∧ o.n ≤ 9223372036854775807
  b : Rd w B (.slice o.A1 o.b.length o.c1) o.b
  ks : RdL w B (.slice o.A2 o.ks.length o.c2) o.ks
theorem OpN.At.below {o : OpN} {w w' : World} {B : Nat} (h : o.At w B) (hb : Below B w w') : o.At w' B := ⟨h.n, h.b.below hb, h.ks.below hb⟩
/-- a row of steps handed in -/
def RdOpsN (w : World) (B : Nat) (v : Value) (ops : List OpN) : Prop :=
  ∃ A c, v = .slice A ops.length c ∧ ops.length ≤ c ∧ c ≤ maxLen ∧ (0 < ops.length → ∃ b o, A = some ⟨b, o, none⟩ ∧ b < B ∧ ∀ j (h : j < ops.length),
    w.cell? ⟨b, o + j * 4, none⟩ = some (.int .i64 ops[j].k) ∧ w.cell? ⟨b, o + j * 4 + 1, none⟩ = some (.int .i64 ops[j].n) ∧
    w.cell? ⟨b, o + j * 4 + 2, none⟩ = some (.slice ops[j].A1 ops[j].b.length ops[j].c1) ∧ w.cell? ⟨b, o + j * 4 + 3, none⟩ = some (.slice ops[j].A2 ops[j].ks.length ops[j].c2) ∧ ops[j].At w B)
/-- what steps may add -/
def bytesN (ops : List OpN) : Nat := (ops.map fun o => 9 + o.b.length).sum
theorem bytesN_drop (ops : List OpN) (k : Nat) (h : k < ops.length) : bytesN (ops.drop k) = (9 + ops[k].b.length) + bytesN (ops.drop (k + 1)) := by
  unfold bytesN
  rw [List.drop_eq_getElem_cons h]
  simp only [List.map_cons, List.sum_cons]
theorem open_count (m : DM) : (openN m).2.2.length ≤ totM m.files := by
  have hm : (readN m sMarks).1.length ≤ totM m.files := by
    unfold readN
    split
    · simp
    · split
      · simp
      · rename_i f hf; exact totM_mem (List.mem_of_getElem? hf)
  have hl := marked_le (readN m sMarks).1
  unfold openN
  split
  · simp
  split
  · simp
  · rename_i rs hrs
    have := (splitN_length _ _ _ hrs).1
    split
    · dsimp only
      split
      · dsimp only; omega
      · simp
    · simp
theorem putM_files (cnt : Nat) (bad : Bool) (r : List UInt8) (m : DM) (h : GoodL m.files) : GoodL (putM cnt bad r m).files ∧ totM (putM cnt bad r m).files ≤ totM m.files + (9 + r.length) := by
  unfold putM
  split
  · exact ⟨h, by omega⟩
  · exact put_files r m h
theorem putC_le (cnt : Nat) (bad : Bool) (r : List UInt8) (m : DM) : putC cnt bad r m ≤ cnt + 1 := by
  unfold putC; split <;> (try split) <;> omega
end Go.Proofs.Ytbbpkenbeenocaa
