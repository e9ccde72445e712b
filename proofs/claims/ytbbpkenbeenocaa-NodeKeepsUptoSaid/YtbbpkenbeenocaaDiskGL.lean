
/- Files as a disk has them; as they are loaded; as they are left. Mathematics, most of it. -/
import Derived.Test.YtbbpkenbeenocaaDiskP
import Derived.Test.YtbbpkenbeenocaaDiskN
import Derived.Test.YtbbpkenbeenocaaDiskE
namespace Go.Proofs.Ytbbpkenbeenocaa
set_option maxRecDepth 100000
open Go Go.RowKit
set_option linter.unusedVariables false

/-- files as a disk has them: at most sixteen, each with a name of its own -/
structure GoodL (fs : List FM) : Prop where
  len : fs.length ≤ 16
  named : ∀ s ∈ fs.map (·.name), namedB s = true
  own : (fs.map (·.name)).Nodup
  safe : ∀ f ∈ fs, f.safe ≤ f.data.length

theorem modify_names (g : FM → FM) (hg : ∀ f, (g f).name = f.name) : ∀ (fs : List FM) (k : Nat), (fs.modify k g).map (·.name) = fs.map (·.name) := by
  intro fs
  induction fs with
  | nil => intro k; cases k <;> rfl
  | cons f fs ih =>
    intro k
    cases k with
    | zero => simp [hg]
    | succ k => simp [ih k]
theorem modify_tot (g : FM → FM) (c : Nat) (hg : ∀ f, (g f).data.length ≤ f.data.length + c) : ∀ (fs : List FM) (k : Nat), totM (fs.modify k g) ≤ totM fs + c := by
  intro fs
  induction fs with
  | nil => intro k; cases k <;> simp [totM]
  | cons f fs ih =>
    intro k
    cases k with
    | zero => have := hg f; simp [totM] at this ⊢; omega
    | succ k => have := ih k; simp [totM] at this ⊢; omega
theorem modify_safe (g : FM → FM) (hg : ∀ f, f.safe ≤ f.data.length → (g f).safe ≤ (g f).data.length) : ∀ (fs : List FM) (k : Nat), (∀ f ∈ fs, f.safe ≤ f.data.length) → ∀ f ∈ fs.modify k g, f.safe ≤ f.data.length := by
  intro fs
  induction fs with
  | nil => intro k; cases k <;> simp
  | cons f fs ih =>
    intro k h
    have h0 := h f (by simp)
    have h1 : ∀ f ∈ fs, f.safe ≤ f.data.length := fun x hx => h x (by simp [hx])
    cases k with
    | zero =>
      intro x hx
      simp at hx
      rcases hx with rfl | hx
      · exact hg _ h0
      · exact h1 x hx
    | succ k =>
      intro x hx
      simp at hx
      rcases hx with rfl | hx
      · exact h0
      · exact ih k h1 x hx
theorem GoodL.modify {fs : List FM} (h : GoodL fs) (g : FM → FM) (k : Nat) (h1 : ∀ f, (g f).name = f.name) (h2 : ∀ f, f.safe ≤ f.data.length → (g f).safe ≤ (g f).data.length) : GoodL (fs.modify k g) :=
  ⟨by rw [List.length_modify]; exact h.len, by rw [modify_names g h1]; exact h.named, by rw [modify_names g h1]; exact h.own, modify_safe g h2 fs k h.safe⟩

theorem place_new : ∀ (fs : List FM) (s : ByteArray), placeF fs s = fs.length → s ∉ fs.map (·.name) := by
  intro fs s
  induction fs with
  | nil => intro _; simp
  | cons f fs ih =>
    intro h
    unfold placeF at h
    split at h
    · simp at h
    · rename_i hne
      have := ih (by simpa using h)
      simp only [List.map_cons, List.mem_cons, not_or]
      exact ⟨fun e => hne e.symm, this⟩
theorem new_place : ∀ (fs : List FM) (s : ByteArray), s ∉ fs.map (·.name) → placeF fs s = fs.length := by
  intro fs s
  induction fs with
  | nil => intro _; rfl
  | cons f fs ih =>
    intro h
    simp only [List.map_cons, List.mem_cons, not_or] at h
    unfold placeF
    rw [if_neg fun e => h.1 e.symm, ih h.2]
    simp
theorem add_files (m : DM) (s : ByteArray) (b : List UInt8) (h : GoodL m.files) : GoodL (addM m s b).2.files ∧ totM (addM m s b).2.files ≤ totM m.files + b.length := by
  unfold addM
  split
  · exact ⟨h.modify _ _ (fun _ => rfl) fun f hf => by simp; omega, modify_tot _ _ (fun f => by simp) _ _⟩
  · rename_i hp
    have hp' : placeF m.files s = m.files.length := by have := placeF_le m.files s; omega
    split
    · exact ⟨h, Nat.le_add_right _ _⟩
    · rename_i hn
      have hn1 : namedB s = true := by
        cases hh : namedB s with
        | true => rfl
        | false => exact absurd (Or.inl hh) hn
      have hn2 : m.files.length < 16 := by
        rcases Nat.lt_or_ge m.files.length 16 with hh | hh
        · exact hh
        · exact absurd (Or.inr hh) hn
      refine ⟨⟨by simp; omega, ?_, ?_, ?_⟩, by simp [totM]⟩
      · intro x hx
        simp only [List.map_append, List.mem_append, List.map_cons, List.map_nil, List.mem_singleton] at hx
        rcases hx with hx | rfl
        · exact h.named x hx
        · exact hn1
      · simp only [List.map_append, List.map_cons, List.map_nil]
        rw [List.nodup_append]
        refine ⟨h.own, by simp, ?_⟩
        intro x hx y hy e
        simp only [List.mem_singleton] at hy
        subst hy
        subst e
        exact place_new _ _ hp' hx
      · intro x hx
        simp only [List.mem_append, List.mem_singleton] at hx
        rcases hx with hx | rfl
        · exact h.safe x hx
        · simp
/-- files as they are loaded -/
def asNew (fs : List (ByteArray × List UInt8)) : List FM := fs.map fun f => ⟨f.1, f.2, f.2.length⟩
theorem loadL_new : ∀ (fs : List (ByteArray × List UInt8)) (acc : List FM), (∀ f ∈ fs, namedB f.1 = true) → (acc.map (·.name) ++ fs.map (·.1)).Nodup → loadL fs acc = some (acc ++ asNew fs) := by
  intro fs
  induction fs with
  | nil => intro acc _ _; simp [loadL, asNew]
  | cons f fs ih =>
    intro acc h1 h2
    have hn : f.1 ∉ acc.map (·.name) := by
      intro hm
      rw [List.nodup_append] at h2
      exact h2.2.2 f.1 hm f.1 (by simp) rfl
    unfold loadL
    rw [if_pos ⟨h1 f (by simp), new_place _ _ hn⟩, ih _ (fun x hx => h1 x (by simp [hx])) (by simpa using h2)]
    simp [asNew]
theorem crash_names : ∀ (fs : List FM) (ks : List Bool), (crashM fs ks).map (·.1) = fs.map (·.name) := by
  intro fs
  induction fs with
  | nil => intro _; rfl
  | cons f fs ih => intro ks; simp [crashM, ih]
theorem crash_tot : ∀ (fs : List FM) (ks : List Bool), (∀ f ∈ fs, f.safe ≤ f.data.length) → ((crashM fs ks).map fun f => f.2.length).sum ≤ totM fs := by
  intro fs
  induction fs with
  | nil => intro _ _; simp [crashM]
  | cons f fs ih =>
    intro ks h
    have h1 := ih (ks.drop (f.data.length - f.safe)) fun x hx => h x (by simp [hx])
    have h2 := remM_le f ks (h f (by simp))
    simp [crashM, totM] at h1 h2 ⊢
    omega
theorem new_names (fs : List (ByteArray × List UInt8)) : (asNew fs).map (·.name) = fs.map (·.1) := by simp [asNew]
theorem new_tot (fs : List (ByteArray × List UInt8)) : totM (asNew fs) = (fs.map fun f => f.2.length).sum := by unfold totM asNew; rw [List.map_map]; rfl
theorem GoodL.new {fs : List FM} (h : GoodL fs) (ks : List Bool) : loadL (crashM fs ks) [] = some (asNew (crashM fs ks)) ∧ GoodL (asNew (crashM fs ks)) ∧ (crashM fs ks).length ≤ 16 ∧ ((crashM fs ks).map fun f => f.2.length).sum ≤ totM fs ∧ ∀ f ∈ crashM fs ks, f.1.size ≤ maxLen := by
  have hn := crash_names fs ks
  have h1 : ∀ f ∈ crashM fs ks, namedB f.1 = true := fun f hf => h.named f.1 (by rw [← hn]; exact List.mem_map_of_mem hf)
  refine ⟨by rw [loadL_new _ _ h1 (by rw [hn]; simpa using h.own)]; rfl, ⟨?_, ?_, ?_, ?_⟩, by rw [crashM_length]; exact h.len, crash_tot fs ks h.safe, fun f hf => ?_⟩
  · simp only [asNew, List.length_map]; rw [crashM_length]; exact h.len
  · rw [new_names, hn]; exact h.named
  · rw [new_names, hn]; exact h.own
  · intro f hf
    simp only [asNew, List.mem_map] at hf
    obtain ⟨x, _, rfl⟩ := hf
    exact Nat.le_refl _
  · have := h1 f hf
    simp [namedB] at this
    unfold maxLen
    omega
/-- what Load takes is good -/
theorem loadL_good : ∀ (fs : List (ByteArray × List UInt8)) (acc l : List FM), loadL fs acc = some l → (∀ s ∈ acc.map (·.name), namedB s = true) → (acc.map (·.name)).Nodup → (∀ s ∈ l.map (·.name), namedB s = true) ∧ (l.map (·.name)).Nodup ∧ l = acc ++ asNew fs := by
  intro fs
  induction fs with
  | nil => intro acc l h h1 h2; simp only [loadL, Option.some.injEq] at h; subst h; exact ⟨h1, h2, by simp [asNew]⟩
  | cons f fs ih =>
    intro acc l h h1 h2
    unfold loadL at h
    split at h
    · rename_i hc
      obtain ⟨q1, q2, q3⟩ := ih _ _ h (by
        intro s hs
        simp only [List.map_append, List.mem_append, List.map_cons, List.map_nil, List.mem_singleton] at hs
        rcases hs with hs | rfl
        · exact h1 s hs
        · exact hc.1) (by
        simp only [List.map_append, List.map_cons, List.map_nil]
        rw [List.nodup_append]
        refine ⟨h2, by simp, ?_⟩
        intro x hx y hy e
        simp only [List.mem_singleton] at hy
        subst hy
        subst e
        exact place_new _ _ hc.2 hx)
      exact ⟨q1, q2, by rw [q3]; simp [asNew]⟩
    · cases h
theorem GoodL.load {fs : List (ByteArray × List UInt8)} {l : List FM} (h : loadL fs [] = some l) (h16 : fs.length ≤ 16) : GoodL l ∧ l = asNew fs := by
  obtain ⟨q1, q2, q3⟩ := loadL_good fs [] l h (by simp) (by simp)
  rw [List.nil_append] at q3
  refine ⟨⟨by rw [q3]; simp [asNew]; exact h16, q1, q2, ?_⟩, q3⟩
  intro f hf
  rw [q3] at hf
  simp only [asNew, List.mem_map] at hf
  obtain ⟨x, _, rfl⟩ := hf
  exact Nat.le_refl _
theorem loadL_safe : ∀ (fs : List (ByteArray × List UInt8)) (acc l : List FM), loadL fs acc = some l → l = acc ++ fs.map fun f => ⟨f.1, f.2, f.2.length⟩ := by
  intro fs
  induction fs with
  | nil => intro acc l h; simp only [loadL, Option.some.injEq] at h; subst h; simp
  | cons f fs ih =>
    intro acc l h
    unfold loadL at h
    split at h
    · rw [ih _ _ h]; simp
    · cases h
theorem crash_loaded (fs : List (ByteArray × List UInt8)) : crashM (fs.map fun f => (⟨f.1, f.2, f.2.length⟩ : FM)) [] = fs := by
  induction fs with
  | nil => rfl
  | cons f fs ih =>
    simp only [List.map_cons, crashM, List.drop_nil, ih]
    simp [remM, remS]
theorem wait_loaded (fs : List (ByteArray × List UInt8)) : waitM (fs.map fun f => (⟨f.1, f.2, f.2.length⟩ : FM)) = 0 := by
  induction fs with
  | nil => rfl
  | cons f fs ih => unfold waitM at ih ⊢; simp at ih ⊢; exact ih
theorem tot_loaded (fs : List (ByteArray × List UInt8)) : totM (fs.map fun f => (⟨f.1, f.2, f.2.length⟩ : FM)) = (fs.map fun f => f.2.length).sum := by
  unfold totM; rw [List.map_map]; rfl

theorem RdFs.more {w : World} {B B' : Nat} {v : Value} {fs : List (ByteArray × List UInt8)} (h : RdFs w B v fs) (hB : B ≤ B') : RdFs w B' v fs := by
  obtain ⟨A, c, rfl, h1, h2, hp⟩ := h
  refine ⟨A, c, rfl, h1, h2, fun h0 => ?_⟩
  obtain ⟨b, o, rfl, hlt, hc⟩ := hp h0
  refine ⟨b, o, rfl, by omega, fun j hj => ?_⟩
  obtain ⟨k0, x, hx, hr⟩ := hc j hj
  exact ⟨k0, x, hx, hr.more hB⟩
theorem rdL_nil (w : World) (B : Nat) : RdL w B (.slice none 0 0) [] := ⟨none, 0, rfl, by simp, by simp [maxLen], fun h => absurd h (by simp)⟩

end Go.Proofs.Ytbbpkenbeenocaa
