
/- Accounts in a store behind calls. -/
import Derived.Test.YtnapmdfdbkpjpaaGreatDoorAuthM
import Derived.Test.YtnapmdfdbkpjpaaGreatDoorBankF0
import Derived.Test.YtnapmdfdbkpjpaaGreatDoorWireW0
namespace Go.Proofs.YtnapmdfdbkpjpaaGreatDoor
set_option maxRecDepth 100000
open Go Go.RowKit
set_option linter.unusedVariables false

theorem SeenL.put {y : Lyr} {l : List Lyr} {R : List Pr} (h : SeenL ⟨#[]⟩ (y :: l) R) {key : ByteArray} (hk : key.size ≤ maxLen) (v : List UInt8) : SeenL ⟨#[]⟩ (y.put key (some v) :: l) (putL (key, some v) R) where
  rise := h.rise.put _
  small := fun p hp => by
    rcases List.mem_append.1 ((putL_perm key _ R).mem_iff.1 hp) with hp | hp
    · rw [List.mem_singleton.1 hp]; exact hk
    · exact h.small p (List.mem_filter.1 hp).1
  get := fun s hs => by
    have h0 := h.get s hs
    rw [begB_empty, if_pos rfl] at h0 ⊢
    rw [getL_putL]
    unfold visV at h0 ⊢
    rw [visD_cons] at h0 ⊢
    have hv : (y.put key (some v)).f s = if s = key then some (some v) else y.f s := rfl
    rw [hv]
    by_cases e : s = key
    · rw [if_pos e, if_pos e]; rfl
    · rw [if_neg e, if_neg e]; exact h0
section
variable {W W' W2 : World} {y : Lyr} {R R2 : List Pr} {k : Nat} {B : Nat}
theorem Acc.get (h : Acc W y R k W') (key : ByteArray) (hk : key.size ≤ maxLen) :
    Calls Tryz.prog 11 #[.pointer (some ⟨y.b, 0, none⟩), .string key] W' fun e w' => ∃ v, e = .returned (.tuple #[v, .bool (getL R key).isSome]) ∧ Own w' W'.heap.size v ((getL R key).getD []) ∧ Below W'.heap.size W' w' := by
  obtain ⟨n, f, h1, h2, h3, h4⟩ := h.b
  have e := h2.get key hk
  rw [begB_empty, if_pos rfl] at e
  rw [e]
  exact get_any h1 key hk
/-- what is there stands under a key that fits, and is not too long -/
theorem Acc.fits (h : Acc W y R k W') {key : ByteArray} {v : List UInt8} (e : getL R key = some v) : keyB key = true ∧ v.length ≤ 65535 := by
  obtain ⟨n, f, h1, h2, h3, h4⟩ := h.b
  have hs := h2.small _ (getL_mem e)
  have e2 := h2.get key hs
  rw [begB_empty, if_pos rfl, e] at e2
  unfold visV at e2
  rw [visD_cons] at e2
  have hok := h1.1.ok
  dsimp only at e2 hok
  cases hf : f key with
  | none => rw [hf] at e2; simp [visD] at e2
  | some x =>
    rw [hf] at e2
    simp at e2
    exact hok key v (by rw [hf, ← e2])
theorem Acc.set (h : Acc W y R k W') (hn : y.n + k < maxLen) (key : ByteArray) (hk : key.size ≤ maxLen) (v : Value) (val : List UInt8) (hr : Rd W' W'.heap.size v val) (hp : pairB (key, val) = true) :
    Calls Tryz.prog 14 #[.pointer (some ⟨y.b, 0, none⟩), .string key, v] W' fun e w' => e = .returned (.int .i64 0) ∧ Acc W y (putL (key, some val) R) (k + 1) w' ∧ Kept W' w' := by
  obtain ⟨n, f, h1, h2, h3, h4⟩ := h.b
  refine (set_yes h1 (show n < maxLen by omega) key hk v val hr hp).mono ?_
  rintro e w' ⟨he, hq, hc⟩
  exact ⟨he, ⟨⟨n + 1, _, hq, h2.put hk val, by omega, h4.trans' hc⟩, h.p⟩, ⟨_, hc, h1.1.maps⟩⟩
end
theorem accKey_any (a : ByteArray) (w : World) (ha : a.size ≤ 100000000) : Calls Tryz.prog 17 #[.string a] w fun e w' => e = .returned (.string (kAcc a)) ∧ w = w' := by
  have s1 : accP.size = 4 := rfl
  have h1 := fun W => txt_add accP a (by rw [s1]; omega) W
  unfold kAcc
  unfold accP at *
  go_enter Tryz.func17, Tryz.ntmps17
  go_wp2
  go_ret
  exact ⟨rfl, rfl⟩
end Go.Proofs.YtnapmdfdbkpjpaaGreatDoor
