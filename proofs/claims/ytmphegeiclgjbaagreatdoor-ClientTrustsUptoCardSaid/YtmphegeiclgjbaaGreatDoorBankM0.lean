
/- The bank's mathematics: where amounts are kept in a list of pairs in order, what Mint, Burn and Send make of it. The bank's mathematics: what calls do to balances and supplies; sums of balances; undoing. -/
import Derived.Test.YtmphegeiclgjbaaGreatDoorStoM0
import Derived.Test.YtmphegeiclgjbaaGreatDoorLimbS0
import Derived.Test.YtmphegeiclgjbaaGreatDoorLimbA0
import Derived.Test.YtmphegeiclgjbaaGreatDoorNameI1
namespace Go.Proofs.YtmphegeiclgjbaaGreatDoor
set_option maxRecDepth 100000
open Go
set_option linter.unusedVariables false

def balP : ByteArray := ⟨#[98, 97, 108, 47]⟩
def supP : ByteArray := ⟨#[115, 117, 112, 47]⟩
def slB : ByteArray := ⟨#[47]⟩
def kBal (a d : ByteArray) : ByteArray := ((balP ++ a) ++ slB) ++ d
def kSup (d : ByteArray) : ByteArray := supP ++ d
def identB (s : ByteArray) : Bool := identL s.data.toList
def denomB (s : ByteArray) : Bool := denomL s.data.toList
/-- the amount under a key -/
def amtU (R : List Pr) (key : ByteArray) : U4 := (fromU ((getL R key).getD [])).1
/-- an amount kept under a key; 0 is not kept -/
def keepL (key : ByteArray) (x : U4) (R : List Pr) : List Pr := putL (key, if eqB x U4.zero = true then none else some (be x.nat 32)) R

section
variable {R : List Pr} {key k : ByteArray} {x : U4}
theorem getL_keep : getL (keepL key x R) k = if k = key then (if eqB x U4.zero = true then none else some (be x.nat 32)) else getL R k := by
  unfold keepL
  rw [getL_putL]
theorem Rise.keep (h : Rise R) : Rise (keepL key x R) := h.put _
end

/-- what an address has -/
def balM (R : List Pr) (a d : ByteArray) : U4 := if (identB a && denomB d) = true then amtU R (kBal a d) else U4.zero
/-- how much there is -/
def supM (R : List Pr) (d : ByteArray) : U4 := if denomB d = true then amtU R (kSup d) else U4.zero
/-- the error of an address, a denomination and an amount -/
def rightM (a d : ByteArray) (x : U4) : Int := if identB a = true then (if denomB d = true then (if eqB x U4.zero = true then 70 else 0) else 41) else 40
/-- Mint and Burn: the supply and a balance, reckoned on -/
def changeM (op : U4 → U4 → U4 × Bool) (unfit : Int) (R : List Pr) (a d : ByteArray) (x : U4) : Int × List Pr :=
  if rightM a d x = 0 then
    if ((op (supM R d) x).2 && (op (balM R a d) x).2) = true then (0, keepL (kBal a d) (op (balM R a d) x).1 (keepL (kSup d) (op (supM R d) x).1 R)) else (unfit, R)
  else (rightM a d x, R)
def mintM := changeM addU 10
def burnM := changeM subU 71
def sendM (R : List Pr) (a b d : ByteArray) (x : U4) : Int × List Pr :=
  if rightM a d x = 0 then
    if identB b = true then
      if (subU (balM R a d) x).2 = true then
        if a = b then (0, R)
        else if (addU (balM R b d) x).2 = true then (0, keepL (kBal b d) (addU (balM R b d) x).1 (keepL (kBal a d) (subU (balM R a d) x).1 R))
        else (10, R)
      else (71, R)
    else (40, R)
  else (rightM a d x, R)
section
variable {R : List Pr} {a b d : ByteArray} {x : U4} {op : U4 → U4 → U4 × Bool} {u : Int}
theorem Rise.change (h : Rise R) : Rise (changeM op u R a d x).2 := by
  unfold changeM
  split
  · split
    · exact h.keep.keep
    · exact h
  · exact h
end
end Go.Proofs.YtmphegeiclgjbaaGreatDoor
namespace Go.Proofs.YtmphegeiclgjbaaGreatDoor
set_option maxRecDepth 100000
open Go
set_option linter.unusedVariables false

section
variable {R : List Pr} {a b c d e key k : ByteArray} {x y : U4} {op : U4 → U4 → U4 × Bool} {u : Int}
end

/-! ### a key put into a list in order, as a permutation -/
theorem putG_perm (c : Chn) (v : List UInt8) (hv : c.2.getD [] = v) : ∀ (l : List Pr), (putG c false l).Perm ((c.1, v) :: l.filter (fun p => !decide (p.1 = c.1)))
  | [] => by simp [putG, hv]
  | p :: l => by
    unfold putG
    cases hl : ltS p.1 c.1 with
    | true =>
      have hne := ltS_ne hl
      simp only [hne, Bool.not_true, Bool.and_false, Bool.or_false, if_false, Bool.false_eq_true, List.nil_append, List.singleton_append]
      rw [List.filter_cons_of_pos (by simp [hne])]
      exact ((putG_perm c v hv l).cons p).trans (List.Perm.swap _ _ _)
    | false =>
      simp only [Bool.not_false, Bool.and_true, Bool.or_true, if_true, List.singleton_append, List.cons_append]
      rw [putG_true, hv]
      by_cases e : p.1 = c.1
      · rw [if_pos e, List.filter_cons_of_neg (by simp [e])]; exact List.Perm.refl _
      · rw [if_neg e, List.filter_cons_of_pos (by simp [e])]; exact List.Perm.refl _
theorem putL_perm (key : ByteArray) (o : Option (List UInt8)) (l : List Pr) : (putL (key, o) l).Perm ((match o with | none => [] | some v => [(key, v)]) ++ l.filter (fun p => !decide (p.1 = key))) := by
  unfold putL
  cases o with
  | none => simp only [Option.isNone_none]; rw [putG_true]; exact List.Perm.refl _
  | some v => exact putG_perm (key, some v) v rfl l
/-! ### sums -/
/-- the sum of the numbers under the keys that f takes -/
def sumF (f : ByteArray → Bool) (l : List Pr) : Nat := ((l.filter (fun p => f p.1)).map (fun p => (fromU p.2).1.nat)).sum
def oneF (f : ByteArray → Bool) (key : ByteArray) (o : Option (List UInt8)) : Nat := match o with | none => 0 | some v => if f key = true then (fromU v).1.nat else 0
/-! ### what the bank alone has written -/
/-- each value is the 32 bytes of a number that is not 0 -/
def CanonL (l : List Pr) : Prop := ∀ p ∈ l, ∃ x : U4, x.ok ∧ eqB x U4.zero = false ∧ p.2 = be x.nat 32
theorem CanonL.keep {l : List Pr} (h : CanonL l) (key : ByteArray) {x : U4} (hx : x.ok) : CanonL (keepL key x l) := by
  intro p hp
  unfold keepL at hp
  have hp2 := (putL_perm key _ l).mem_iff.1 hp
  rcases List.mem_append.1 hp2 with hp | hp
  · by_cases h0 : eqB x U4.zero = true
    · rw [if_pos h0] at hp; cases hp
    · rw [if_neg h0] at hp
      rw [List.mem_singleton.1 hp]
      exact ⟨x, hx, by simpa using h0, rfl⟩
  · exact h p (List.mem_filter.1 hp).1
end Go.Proofs.YtmphegeiclgjbaaGreatDoor
