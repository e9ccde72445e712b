
/- Branches of a store behind calls: a bank over any pile; what is left is as it was, what is written is seen. -/
import Derived.Test.YtcgkonpepmoliaaGreatDoorCliM
import Derived.Test.YtcgkonpepmoliaaGreatDoorBankE
import Derived.Test.YtcgkonpepmoliaaGreatDoorStoW1
namespace Go.Proofs.YtcgkonpepmoliaaGreatDoor
set_option maxRecDepth 100000
open Go Go.RowKit
set_option linter.unusedVariables false

theorem Kept.blockX {w w' : World} (h : Kept w w') {b : Nat} {cs : Array Value} {t : TypeId} {fr : Nat × Nat} (hb : w.heap[b]? = some (.cells cs t fr)) : w'.heap[b]? = some (.cells cs t fr) := by
  obtain ⟨F, h1, h2⟩ := h
  have hn : ¬ F b := fun k => by
    obtain ⟨es, c, e⟩ := h2 _ k
    rw [hb] at e; cases e
  exact (h1.block b (blk_lt hb) hn).trans hb
theorem SeenL.written {pfx : ByteArray} {y z : Lyr} {l : List Lyr} {R : List Pr} (h : SeenL pfx (y :: z :: l) R) {b m n : Nat} {f : LF} (hf : ∀ s : ByteArray, s.size ≤ maxLen → f s = wrF l.isEmpty y.f z.f (fun _ => false) s) : SeenL pfx (⟨b, m, n, f⟩ :: l) R where
  rise := h.rise
  small := h.small
  get := fun s hs => by
    rw [h.get s hs]
    have e : visV (⟨b, m, n, f⟩ :: l) s = visV (y :: z :: l) s := by
      unfold visV
      rw [visD_cons, visD_cons, visD_cons]
      have hq := hf s hs
      unfold wrF at hq
      rw [if_neg (by simp)] at hq
      dsimp only
      rw [hq]
      cases hy : y.f s with
      | none => rfl
      | some x =>
        dsimp only
        unfold wrC
        split
        · next hx =>
          obtain ⟨h1, h2⟩ := hx
          subst h2
          have : l = [] := by simpa using h1
          subst this
          rfl
        · rfl
    rw [e]
section
variable {W W' W2 : World} {y z : Lyr} {l : List Lyr} {R R2 : List Pr} {k j : Nat} {B : Nat}
theorem BankS.joinX {n : Nat} {f : LF} (h3 : n ≤ y.n + k) (h4 : Chg W W' (fun k => k = y.m)) (h : BankS W' ⟨y.b, y.m, n, f⟩ l R2 j W2) : BankS W y l R2 (k + j) W2 := by
  obtain ⟨n', f', g1, g2, g3, g4⟩ := h
  dsimp only at g1 g2 g3 g4
  exact ⟨n', f', g1, g2, by omega, h4.trans' g4⟩
theorem At.send (h : At W y l R k W') (hn : y.n + k + 2 ≤ maxLen) (a b d : ByteArray) (x : U4) (hx : x.ok) (ha : a.size ≤ 100000000) (hb : b.size ≤ 100000000) (hd : d.size ≤ 100000000) :
    Calls Tryz.prog 10 #[.pointer (some ⟨y.b, 0, none⟩), .string a, .string b, .string d, x.val] W' fun e w' => e = .returned (.int .i64 (sendM R a b d x).1) ∧ At W y l (sendM R a b d x).2 (k + 2) w' ∧ Kept W' w' := by
  obtain ⟨n, f, h1, h2, h3, h4⟩ := h.b
  refine (send_any h1 h2 (show n + 2 ≤ maxLen by omega) a b d x hx ha hb hd).mono ?_
  rintro e w' ⟨he, hq⟩
  exact ⟨he, ⟨BankS.joinX h3 h4 hq, h.p⟩, At.kept ⟨hq, h1⟩⟩
theorem Lyr.del_form (y : Lyr) (bot : Bool) (key : ByteArray) : ∃ n f, y.del bot key = ⟨y.b, y.m, n, f⟩ ∧ n ≤ y.n + 1 := by
  unfold Lyr.del
  split
  · exact ⟨_, _, rfl, by omega⟩
  · exact ⟨_, _, rfl, Nat.le_refl _⟩
theorem SeenL.delX {y : Lyr} {l : List Lyr} {R : List Pr} (h : SeenL ⟨#[]⟩ (y :: l) R) (key : ByteArray) : SeenL ⟨#[]⟩ (y.del l.isEmpty key :: l) (putL (key, none) R) where
  rise := h.rise.put _
  small := fun p hp => by
    rcases List.mem_append.1 ((putL_perm key _ R).mem_iff.1 hp) with hp | hp
    · simp at hp
    · exact h.small p (List.mem_filter.1 hp).1
  get := fun s hs => by
    have h0 := h.get s hs
    rw [begB_empty, if_pos rfl] at h0 ⊢
    rw [getL_putL]
    unfold visV at h0 ⊢
    rw [visD_cons] at h0 ⊢
    cases l with
    | nil =>
      have hv : (y.del ([] : List Lyr).isEmpty key).f s = if s = key then none else y.f s := rfl
      rw [hv]
      by_cases e : s = key
      · rw [if_pos e, if_pos e]; rfl
      · rw [if_neg e, if_neg e]; exact h0
    | cons z l =>
      have hv : (y.del (z :: l).isEmpty key).f s = if s = key then some none else y.f s := rfl
      rw [hv]
      by_cases e : s = key
      · rw [if_pos e, if_pos e]; rfl
      · rw [if_neg e, if_neg e]; exact h0
theorem At.del (h : At W y l R k W') (hn : y.n + k < maxLen) (key : ByteArray) (hk : key.size ≤ maxLen) :
    Calls Tryz.prog 75 #[.pointer (some ⟨y.b, 0, none⟩), .string key] W' fun e w' => e = .returned (.tuple #[]) ∧ At W y l (putL (key, none) R) (k + 1) w' ∧ Kept W' w' := by
  obtain ⟨n, f, h1, h2, h3, h4⟩ := h.b
  refine (del_any h1 (show n < maxLen by omega) key hk).mono ?_
  rintro e w' ⟨he, hq, hc⟩
  have hs := h2.delX key
  obtain ⟨n2, f2, e2, hn2⟩ := Lyr.del_form ⟨y.b, y.m, n, f⟩ l.isEmpty key
  rw [e2] at hq hs
  have hn3 : n2 ≤ n + 1 := hn2
  exact ⟨he, ⟨⟨n2, f2, hq, hs, by omega, h4.trans' hc⟩, h.p⟩, ⟨_, hc, h1.1.maps⟩⟩
/-- a branch z of a store y: R is seen of the store, R2 of the branch -/
structure Bra (W : World) (y : Lyr) (l : List Lyr) (R : List Pr) (k : Nat) (z : Lyr) (R2 : List Pr) (j : Nat) (W' : World) : Prop where
  ex : ∃ W1 n f, SeenL ⟨#[]⟩ (⟨y.b, y.m, n, f⟩ :: l) R ∧ n ≤ y.n + k ∧ Chg W W1 (fun q => q = y.m) ∧ At W1 z (⟨y.b, y.m, n, f⟩ :: l) R2 j W' ∧ W.heap.size ≤ z.m
  p : PileS W (y :: l)
  zn : z.n = 0
theorem At.branch (h : At W y l R k W') : Calls Tryz.prog 9 #[.pointer (some ⟨y.b, 0, none⟩)] W' fun e w' => ∃ z : Lyr, e = .returned (.pointer (some ⟨z.b, 0, none⟩)) ∧ W'.heap.size ≤ z.b ∧ W'.heap.size ≤ z.m ∧ Bra W y l R k z R 0 w' ∧ Below W'.heap.size W' w' := by
  obtain ⟨n, f, h1, h2, h3, h4⟩ := h.b
  refine (branch_any h1).mono ?_
  rintro e w' ⟨b, m, rfl, hb, hm, hp, hq⟩
  refine ⟨⟨b, m, 0, fun _ => none⟩, rfl, hb, hm, ⟨⟨w', n, f, h2, h3, h4.trans' (.of_below hq _), ⟨BankS.refl hp ⟨h2.rise, h2.small, fun s hs => ?_⟩, hp⟩, Nat.le_trans h4.size hm⟩, h.p, rfl⟩, hq⟩
  rw [h2.get s hs]
  rfl
theorem Bra.up (h : Bra W y l R k z R2 j W') (hb : Below W'.heap.size W' W2) : Bra W y l R k z R2 j W2 := by
  obtain ⟨W1, n, f, h1, h2, h3, h4, h5⟩ := h.ex
  exact ⟨⟨W1, n, f, h1, h2, h3, h4.up hb, h5⟩, h.p, h.zn⟩
theorem Bra.send (h : Bra W y l R k z R2 j W') (hn : j + 2 ≤ maxLen) (a b d : ByteArray) (x : U4) (hx : x.ok) (ha : a.size ≤ 100000000) (hb : b.size ≤ 100000000) (hd : d.size ≤ 100000000) :
    Calls Tryz.prog 10 #[.pointer (some ⟨z.b, 0, none⟩), .string a, .string b, .string d, x.val] W' fun e w' => e = .returned (.int .i64 (sendM R2 a b d x).1) ∧ Bra W y l R k z (sendM R2 a b d x).2 (j + 2) w' ∧ Kept W' w' := by
  obtain ⟨W1, n, f, h1, h2, h3, h4, h5⟩ := h.ex
  refine (h4.send (by have := h.zn; omega) a b d x hx ha hb hd).mono ?_
  rintro e w' ⟨he, hq, hk⟩
  exact ⟨he, ⟨⟨W1, n, f, h1, h2, h3, hq, h5⟩, h.p, h.zn⟩, hk⟩
theorem Bra.del (h : Bra W y l R k z R2 j W') (hn : j < maxLen) (key : ByteArray) (hk : key.size ≤ maxLen) :
    Calls Tryz.prog 75 #[.pointer (some ⟨z.b, 0, none⟩), .string key] W' fun e w' => e = .returned (.tuple #[]) ∧ Bra W y l R k z (putL (key, none) R2) (j + 1) w' ∧ Kept W' w' := by
  obtain ⟨W1, n, f, h1, h2, h3, h4, h5⟩ := h.ex
  refine (h4.del (by have := h.zn; omega) key hk).mono ?_
  rintro e w' ⟨he, hq, hk⟩
  exact ⟨he, ⟨⟨W1, n, f, h1, h2, h3, hq, h5⟩, h.p, h.zn⟩, hk⟩
theorem Chg.over (h1 : Chg W W' (fun q => q = y.m)) (h2 : Chg W' W2 (fun q => q = z.m ∨ q = y.m)) (hz : W.heap.size ≤ z.m) : Chg W W2 (fun q => q = y.m) :=
  ⟨h2.os.trans h1.os, h2.tape.trans h1.tape, h2.output.trans h1.output, Nat.le_trans h1.size h2.size, fun q hq hn => (h2.block q (Nat.lt_of_lt_of_le hq h1.size) (fun (e : q = z.m ∨ q = y.m) => e.elim (fun e => by omega) (fun e => hn e))).trans (h1.block q hq hn)⟩
/-- a branch that is left -/
theorem Bra.back (h : Bra W y l R k z R2 j W') : At W y l R k W' := by
  obtain ⟨W1, n, f, h1, h2, h3, h4, h5⟩ := h.ex
  obtain ⟨n', f', g1, g2, g3, g4⟩ := h4.b
  exact ⟨⟨n, f, g1.tail, h1, h2, Chg.over h3 (g4.mono fun _ _ e => .inl e) h5⟩, h.p⟩
/-- a branch that is written -/
theorem Bra.write (h : Bra W y l R k z R2 j W') (hn : y.n + k + j < maxLen) :
    Calls Tryz.prog 44 #[.pointer (some ⟨z.b, 0, none⟩)] W' fun e w' => e = .returned (.tuple #[]) ∧ At W y l R2 (k + j) w' ∧ Kept W' w' := by
  obtain ⟨W1, n, f, h1, h2, h3, h4, h5⟩ := h.ex
  obtain ⟨n', f', g1, g2, g3, g4⟩ := h4.b
  have hz := h.zn
  have hc3 := Chg.over h3 (g4.mono fun _ _ e => .inl e) h5
  refine (write_any g1 (show n + n' < maxLen by omega)).mono ?_
  rintro e w' ⟨he, n2, f2, q1, q2, q3, q4⟩
  dsimp only at q1 q2 q3 q4
  have hm1 := g1.1.maps
  have hm2 := g1.tail.1.maps
  exact ⟨he, ⟨⟨n2, f2, q1.tail, g2.written q3, by omega, Chg.over hc3 (q4.mono fun _ _ e => e.symm) h5⟩, h.p⟩, ⟨_, q4, fun q e => by
    rcases e with e | e
    · first | exact hm2 q e | exact hm1 q e
    · first | exact hm1 q e | exact hm2 q e⟩⟩
end
end Go.Proofs.YtcgkonpepmoliaaGreatDoor
