
/- Rows of rows of bytes that were handed in. -/
import Derived.Test.YtbbpkenbeenocaaOpenB
import Derived.Test.YtbbpkenbeenocaaInfo
import Derived.Deep.Slices
namespace Go.Proofs.Ytbbpkenbeenocaa
set_option maxRecDepth 100000
open Go Go.ChangeShapes Go.WideShapes Go.ChangeAt Go.RowKit Go.Deep

/-- The slice value v reads as the rows ls, in blocks below B. -/
def RdR (w : World) (B : Nat) (v : Value) (ls : List (List UInt8)) : Prop :=
  ∃ A c, v = .slice A ls.length c ∧ ls.length ≤ c ∧ c ≤ maxLen ∧ (0 < ls.length → ∃ b o, A = some ⟨b, o, none⟩ ∧ b < B ∧ ∀ j (h : j < ls.length), ∃ x, w.cell? ⟨b, o + j, none⟩ = some x ∧ Rd w B x ls[j])
theorem RdR.below {w w' : World} {B : Nat} {v : Value} {ls : List (List UInt8)} (h : RdR w B v ls) (hb : Below B w w') : RdR w' B v ls := by
  obtain ⟨A, c, rfl, h1, h2, hp⟩ := h
  refine ⟨A, c, rfl, h1, h2, fun h0 => ?_⟩
  obtain ⟨b, o, rfl, hlt, hc⟩ := hp h0
  refine ⟨b, o, rfl, hlt, fun j hj => ?_⟩
  obtain ⟨x, hx, hr⟩ := hc j hj
  exact ⟨x, (hb.cell (p := ⟨b, o + j, none⟩) hlt).trans hx, hr.below hb⟩

theorem addr_add_none2 (b o i : Nat) : (⟨b, o, none⟩ : Addr).add i = ⟨b, o + i, none⟩ := by unfold Addr.add; split <;> simp_all
theorem bulk_sum {H : Type} (n : Nat) (D : Nat → DataW H) (L : Nat → List UInt8) (h : ∀ i, i < n → (L i).length ≤ Rows.uptoBulk (D i)) : (((List.range n).map L).map List.length).sum ≤ Rows.uptoBulkAll ((List.range n).map D) := by
  have : ∀ (l : List Nat), (∀ i ∈ l, (L i).length ≤ Rows.uptoBulk (D i)) → ((l.map L).map List.length).sum ≤ Rows.uptoBulkAll (l.map D) := by
    intro l
    induction l with
    | nil => intro _; simp
    | cons x l ih =>
      intro hl
      have h1 := ih fun i hi => hl i (by simp [hi])
      have h2 := hl x (by simp)
      simp only [List.map_cons, List.sum_cons, Rows.uptoBulkAll]
      omega
  exact this _ fun i hi => h i (List.mem_range.1 hi)

theorem open_rows_arg {H : Type} {enc : TypeId × Value → H} {W : World} {v : Value} {d : DataW H} {p : List MemPlace} {base : Nat} (hv : Value.okWide Try.prog W .any base 33 v)
    (h : DataW.Trod enc Try.prog W 0 (fun _ => true) true 33 v d p) : ∃ ls : List (List UInt8), RdR W W.heap.size v ls ∧ (ls.map List.length).sum ≤ Rows.uptoBulk d ∧ ls.length ≤ Rows.uptoBulk d := by
  obtain ⟨fuel, hf⟩ := h
  obtain ⟨b0, c0, k0, rfl⟩ := okWide_slice Try.underlying33 hv
  rcases open_slice Try.underlying33 hf with ⟨hcs, hx⟩ | ⟨a, len, cap, m, n, D, Pl, hcs, _, hl, hcm, hm, hx, hi⟩
  · simp [Value.cells] at hcs
    obtain ⟨rfl, rfl, rfl⟩ := hcs
    exact ⟨[], ⟨none, 0, rfl, by simp, by simp [maxLen], fun h => absurd h (by simp)⟩, by simp, by simp⟩
  · simp [Value.cells] at hcs
    obtain ⟨rfl, rfl, rfl⟩ := hcs
    simp only [if_true] at hm
    obtain rfl : m = k0 := hm
    simp only [Prod.mk.injEq] at hx
    have hall : ∀ i, i < m → ∃ (l : List UInt8) (x : Value), W.cell? (a.add i) = some x ∧ Rd W W.heap.size x l ∧ l.length ≤ Rows.uptoBulk (D i) := fun i hi2 => by
      obtain ⟨cs, hc, ht⟩ := hi i hi2
      have h1 : Try.prog.cellsOf 40 = 1 := by kernel_rfl
      rw [h1] at hc
      obtain ⟨_, hcl, hat⟩ := World.cells?_some hc
      obtain ⟨x, rfl⟩ : ∃ x, cs = [x] := by
        match cs, hcl with
        | [x], _ => exact ⟨x, rfl⟩
      have hx0 := hat 0 (by omega)
      obtain ⟨l, hr, hb⟩ := open_bytes Try.underlying40 Try.underlying5 (by kernel_rfl) ht
      have e0 : (a.add i).add 0 = a.add i := by
        obtain ⟨b, o, s⟩ := a
        cases s <;> simp [Addr.add]
      rw [Nat.mul_one, e0] at hx0
      exact ⟨l, x, by simpa using hx0, hr, hb⟩
    obtain ⟨L, hL⟩ := choose_lt (α := List UInt8) (p := fun i l => ∃ x : Value, W.cell? (a.add i) = some x ∧ Rd W W.heap.size x l ∧ l.length ≤ Rows.uptoBulk (D i)) hall
    have hs := bulk_sum (H := H) c0 D L fun i hi2 => by obtain ⟨_, _, _, h⟩ := hL i (by omega); exact h
    refine ⟨(List.range c0).map L, ⟨some a, m, by simp, by simpa using hl, hcm, fun h0 => ?_⟩, ?_, ?_⟩
    · simp at h0
      obtain ⟨x0, q0, _, _⟩ := hL 0 (by omega)
      obtain ⟨b, o, spot⟩ := a
      have hspot : spot = none := by simpa [Addr.add] using World.cell?_spot q0
      subst hspot
      refine ⟨b, o, rfl, ?_, fun j hj => ?_⟩
      · have := World.block_lt_of_cell? W _ q0
        simpa [Addr.add] using this
      · simp at hj
        obtain ⟨x, qx, hr, _⟩ := hL j (by omega)
        rw [addr_add_none2] at qx
        exact ⟨x, qx, by simpa using hr⟩
    · rw [hx.1]
      simp only [Rows.uptoBulk]
      omega
    · rw [hx.1]
      have := bulk_len ((List.range c0).map D)
      simp only [Rows.uptoBulk]
      simp at this ⊢
      omega
end Go.Proofs.Ytbbpkenbeenocaa
