
/- The walks of the bank's amounts: balKey, supKey, amount, keep, Right, Supply, Bal. The walks of the bank's Right, Supply, Bal; what is seen when an amount is kept. The walks of the bank's Bal, change, Mint, Burn, Send. -/
import Derived.Test.YtmphegeiclgjbaaGreatDoorBankM0
import Derived.Test.YtmphegeiclgjbaaGreatDoorStoA1
import Derived.Test.YtmphegeiclgjbaaGreatDoorLimbA0
import Derived.Test.YtmphegeiclgjbaaGreatDoorLimbN1
import Derived.Test.YtmphegeiclgjbaaGreatDoorNameI1
namespace Go.Proofs.YtmphegeiclgjbaaGreatDoor
set_option maxRecDepth 100000
open Go Go.RowKit
set_option linter.unusedVariables false

theorem txt_add (a b : ByteArray) (h : a.size + b.size ≤ 9223372036854775807) (w : World) : (Op.stringOp .add a b).run Tryz.prog w = .ok (.string (a ++ b)) w := run_string_add_sum (P := Tryz.prog) (w := w) a b h
/-- the amount under a key, as it is seen -/
def amtV (l : List Lyr) (key : ByteArray) : U4 := (fromU ((visV l key).getD [])).1
/-- an amount kept in a layer -/
def Lyr.keep (y : Lyr) (bot : Bool) (key : ByteArray) (x : U4) : Lyr := if eqB x U4.zero = true then y.del bot key else y.put key (some (be x.nat 32))
end Go.Proofs.YtmphegeiclgjbaaGreatDoor
namespace Go.Proofs.YtmphegeiclgjbaaGreatDoor
set_option maxRecDepth 100000
open Go Go.RowKit
set_option linter.unusedVariables false

theorem SeenL.keep {y : Lyr} {l : List Lyr} {R : List Pr} (h : SeenL ⟨#[]⟩ (y :: l) R) {key : ByteArray} (hk : key.size ≤ maxLen) (x : U4) : SeenL ⟨#[]⟩ (y.keep l.isEmpty key x :: l) (keepL key x R) where
  rise := h.rise.keep
  small := fun p hp => by
    unfold keepL at hp
    rcases List.mem_append.1 ((putL_perm key _ R).mem_iff.1 hp) with hp | hp
    · split at hp
      · cases hp
      · rw [List.mem_singleton.1 hp]; exact hk
    · exact h.small p (List.mem_filter.1 hp).1
  get := fun s hs => by
    have h0 := h.get s hs
    rw [begB_empty, if_pos rfl] at h0 ⊢
    rw [getL_keep]
    unfold visV at h0 ⊢
    rw [visD_cons] at h0 ⊢
    have hv : (y.keep l.isEmpty key x).f s = if s = key then (if eqB x U4.zero = true then (if l.isEmpty = true then none else some none) else some (some (be x.nat 32))) else y.f s := by
      unfold Lyr.keep Lyr.del
      by_cases hx : eqB x U4.zero = true
      · rw [if_pos hx, if_pos hx]
        by_cases hl : l.isEmpty = true
        · rw [if_pos hl, if_pos hl]; rfl
        · rw [if_neg hl, if_neg hl]; rfl
      · rw [if_neg hx, if_neg hx]; rfl
    rw [hv]
    by_cases e : s = key
    · rw [if_pos e, if_pos e]
      by_cases hx : eqB x U4.zero = true
      · rw [if_pos hx, if_pos hx]
        cases l with
        | nil => rfl
        | cons a l => rfl
      · rw [if_neg hx, if_neg hx]; rfl
    · rw [if_neg e, if_neg e]; exact h0
/-- what an address has, as it is seen -/
def balV (l : List Lyr) (a d : ByteArray) : U4 := if (identB a && denomB d) = true then amtV l (kBal a d) else U4.zero
def supV (l : List Lyr) (d : ByteArray) : U4 := if denomB d = true then amtV l (kSup d) else U4.zero
end Go.Proofs.YtmphegeiclgjbaaGreatDoor
namespace Go.Proofs.YtmphegeiclgjbaaGreatDoor
set_option maxRecDepth 100000
open Go Go.RowKit
set_option linter.unusedVariables false

/-- a store of one pile, of which R is seen, behind a call of the bank -/
def BankS (W : World) (y : Lyr) (l : List Lyr) (R : List Pr) (k : Nat) (W' : World) : Prop :=
  ∃ n f, PileS W' (⟨y.b, y.m, n, f⟩ :: l) ∧ SeenL ⟨#[]⟩ (⟨y.b, y.m, n, f⟩ :: l) R ∧ n ≤ y.n + k ∧ Chg W W' (fun k => k = y.m)
theorem BankS.refl {W : World} {y : Lyr} {l : List Lyr} {R : List Pr} (h : PileS W (y :: l)) (hs : SeenL ⟨#[]⟩ (y :: l) R) : BankS W y l R 0 W := ⟨y.n, y.f, h, hs, Nat.le_refl _, Chg.refl _ _⟩
theorem BankS.up {W W' W2 : World} {y : Lyr} {l : List Lyr} {R : List Pr} {k k' : Nat} (h : BankS W y l R k W') (hb : Below W'.heap.size W' W2) (hk : k ≤ k') : BankS W y l R k' W2 := by
  obtain ⟨n, f, h1, h2, h3, h4⟩ := h
  exact ⟨n, f, h1.up hb, h2, by omega, h4.trans' (.of_below hb _)⟩
theorem BankS.from_ {W0 W W' : World} {y : Lyr} {l : List Lyr} {R : List Pr} {k : Nat} (h : BankS W y l R k W') (hb : Below W0.heap.size W0 W) : BankS W0 y l R k W' := by
  obtain ⟨n, f, h1, h2, h3, h4⟩ := h
  exact ⟨n, f, h1, h2, h3, (Chg.of_below hb _).trans' h4⟩
end Go.Proofs.YtmphegeiclgjbaaGreatDoor
