/- One call of a script, as a value; play, whole, on two disks that agree. -/
import Derived.Test.YtcnooafnifpbaaaPlayC
namespace Go.Proofs.Ytcnooafnifpbaaa
open Go Go.RowKit
set_option linter.unusedVariables false

/-- one call of a script -/
structure OpV where
  k : Int
  n : Int
  s : ByteArray
  b : List UInt8
  ks : List Bool
  A1 : Option Addr
  c1 : Nat
  A2 : Option Addr
  c2 : Nat
def OpV.val (o : OpV) : Value := .agg #[.int .i64 o.k, .int .i64 o.n, .string o.s, .slice o.A1 o.b.length o.c1, .slice o.A2 o.ks.length o.c2]
structure OpV.At (o : OpV) (w : World) (B : Nat) : Prop where
  n : -9223372036854775808 ≤ o.n ∧ o.n ≤ 9223372036854775807
  s : o.s.size ≤ maxLen
  b : Rd w B (.slice o.A1 o.b.length o.c1) o.b
  ks : RdL w B (.slice o.A2 o.ks.length o.c2) o.ks
theorem OpV.At.below {o : OpV} {w w' : World} {B : Nat} (h : o.At w B) (hb : Below B w w') : o.At w' B := ⟨h.n, h.s, h.b.below hb, h.ks.below hb⟩

def stepM (m : DM) (o : OpV) : DM :=
  if o.k = 1 then (appendM m o.s o.b).2 else if o.k = 2 then (syncM m o.s).2 else if o.k = 3 then (truncM m o.s o.n).2 else if o.k = 5 then armM m o.n else m

variable {w : World} {B : Nat} {F G : Nat → Prop} {d e : Nat} {m : DM}
theorem play_any (h : Two w B F G d e m m) (o : OpV) (ho : o.At w B) (hm : totM m.files ≤ 4194304) (hl : m.files.length ≤ 16) (hb : o.b.length ≤ 4194304) (hk : o.ks.length ≤ 4194304) :
    Calls Try.prog 16 #[.pointer (some ⟨d, 0, none⟩), .pointer (some ⟨e, 0, none⟩), o.val] w fun r w' =>
      r = .returned (.bool true) ∧ TwoX w' B d e (stepM m o) (stepM m o) ∧ Below B w w' := by
  have hf : ∀ f ∈ m.files, f.data.length ≤ 4194304 := fun f hf => Nat.le_trans (totM_mem hf) hm
  obtain ⟨k, n, s, b, ks, A1, c1, A2, c2⟩ := o
  have hd : k = 1 ∨ k = 2 ∨ k = 3 ∨ k = 4 ∨ k = 5 ∨ k = 6 ∨ k = 7 ∨ k = 8 ∨ ¬ (1 ≤ k ∧ k ≤ 8) := by omega
  unfold OpV.val
  dsimp only at hb hk ⊢
  rcases hd with rfl | rfl | rfl | rfl | rfl | rfl | rfl | rfl | hk9
  · exact (play_append h n s A1 A2 _ c1 _ c2 ho.s b ho.b (fun f hf' => by have := hf f hf'; omega) (fun f hf' => by have := hf f hf'; omega) (by omega) (by omega) (by omega)).mono fun r w' ⟨x, h1, h2, h3, h4⟩ => ⟨by rw [h1, h2 rfl], h3, h4⟩
  · exact (play_sync h n s A1 A2 _ c1 _ c2).mono fun r w' ⟨x, h1, h2, h3, h4⟩ => ⟨by rw [h1, h2 rfl], h3, h4⟩
  · exact (play_trunc h n s A1 A2 _ c1 _ c2 ho.n (fun f hf' => by have := hf f hf'; omega) (fun f hf' => by have := hf f hf'; omega)).mono fun r w' ⟨x, h1, h2, h3, h4⟩ => ⟨by rw [h1, h2 rfl], h3, h4⟩
  · exact (play_read h n s A1 A2 _ c1 _ c2 (fun f hf' => by have := hf f hf'; omega) (fun f hf' => by have := hf f hf'; omega)).mono fun r w' ⟨x, h1, h2, h3, h4⟩ => ⟨by rw [h1, h2 rfl], h3, h4⟩
  · exact (play_arm h n s A1 A2 _ c1 _ c2 ho.n).mono fun r w' h => h
  · exact (play_down h n s A1 A2 _ c1 _ c2).mono fun r w' ⟨x, h1, h2, h3, h4⟩ => ⟨by rw [h1, h2 rfl], h3, h4⟩
  · exact (play_waiting h n s A1 A2 _ c1 _ c2 (by omega) (by omega)).mono fun r w' ⟨x, h1, h2, h3, h4⟩ => ⟨by rw [h1, h2 rfl], h3, h4⟩
  · exact (play_crash h n s A1 A2 _ c1 _ c2 rfl ks ho.ks (by omega) (by omega) (by omega)).mono fun r w' h => h
  · have e : stepM m ⟨k, n, s, b, ks, A1, c1, A2, c2⟩ = m := by
      unfold stepM
      dsimp only
      rw [if_neg (by omega), if_neg (by omega), if_neg (by omega), if_neg (by omega)]
    rw [e]
    exact (play_none h k hk9 n s A1 A2 _ c1 _ c2).mono fun r w' h => h
end Go.Proofs.Ytcnooafnifpbaaa
