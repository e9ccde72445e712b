
/- What a call of the bank makes of a store. Scripts of the bank: rows of calls, read. A call of the bank, handed in by value. Accounts, as mathematics. Accounts in a store behind calls. What a walk of a reader's struct keeps: the result's block, the struct's block, the reader. A struct is equal to itself. -/
import Derived.Test.YtlkkjnacolmmpaaGreatDoorBankM0
import Derived.Test.YtlkkjnacolmmpaaGreatDoorLimbA0
import Derived.Test.YtlkkjnacolmmpaaGreatDoorBankF0
import Derived.Test.YtlkkjnacolmmpaaGreatDoorEncB0
import Derived.Test.YtlkkjnacolmmpaaGreatDoorWireW0
import Derived.Test.YtlkkjnacolmmpaaGreatDoorBankA0
import Derived.Test.YtlkkjnacolmmpaaGreatDoorWireR
import Derived.Deep.RegionHeldLaw
import Derived.Laws.StructEq
namespace Go.Proofs.YtlkkjnacolmmpaaGreatDoor
set_option maxRecDepth 100000
open Go
set_option linter.unusedVariables false
/-- what a call of the bank makes of a store -/
def stepM (R : List Pr) (kd : Int) (a c d : ByteArray) (x : U4) : List Pr := if kd = 1 then (mintM R a d x).2 else if kd = 2 then (burnM R a d x).2 else if kd = 3 then (sendM R a c d x).2 else R
theorem addU_okm (x y : U4) : (addU x y).1.ok := by
  unfold addU
  split
  · exact ofN_ok _
  · exact zero_ok
theorem subU_okm (x y : U4) : (subU x y).1.ok := by
  unfold subU
  split
  · exact ofN_ok _
  · exact zero_ok
section
variable {R : List Pr} {a b c d : ByteArray} {x : U4}
theorem CanonL.nil : CanonL [] := fun p hp => by cases hp
theorem CanonL.change {op : U4 → U4 → U4 × Bool} {u : Int} (h : CanonL R) (ho : ∀ x y, (op x y).1.ok) : CanonL (changeM op u R a d x).2 := by
  unfold changeM
  split
  · split
    · exact (h.keep _ (ho _ _)).keep _ (ho _ _)
    · exact h
  · exact h
theorem CanonL.send (h : CanonL R) : CanonL (sendM R a b d x).2 := by
  unfold sendM
  split
  · split
    · split
      · split
        · exact h
        · split
          · exact (h.keep _ (subU_okm _ _)).keep _ (addU_okm _ _)
          · exact h
      · exact h
    · exact h
  · exact h
end
end Go.Proofs.YtlkkjnacolmmpaaGreatDoor
namespace Go.Proofs.YtlkkjnacolmmpaaGreatDoor
set_option maxRecDepth 100000
open Go Go.RowKit
set_option linter.unusedVariables false

/-- one call of a script -/
structure BOp where
  kd : Int
  a : ByteArray
  c : ByteArray
  d : ByteArray
  x : U4
def BOp.cells (o : BOp) : List Value := [.int .i64 o.kd, .string o.a, .string o.c, .string o.d, .int .u64 (o.x.a : Int), .int .u64 (o.x.b : Int), .int .u64 (o.x.c : Int), .int .u64 (o.x.d : Int)]
def BOp.fine (o : BOp) : Prop := o.x.ok ∧ o.a.size ≤ 100000000 ∧ o.c.size ≤ 100000000 ∧ o.d.size ≤ 100000000
/-- a row of calls, read -/
def RdB (w : World) (B : Nat) (v : Value) (ops : List BOp) : Prop :=
  ∃ A c, v = .slice A ops.length c ∧ ops.length ≤ c ∧ c ≤ maxLen ∧ (0 < ops.length → ∃ b o, A = some ⟨b, o, none⟩ ∧ b < B ∧ ∀ j (h : j < ops.length), ∀ i, i < 8 → w.cell? ⟨b, o + j * 8 + i, none⟩ = (ops[j]).cells[i]?)
end Go.Proofs.YtlkkjnacolmmpaaGreatDoor
namespace Go.Proofs.YtlkkjnacolmmpaaGreatDoor
set_option maxRecDepth 100000
open Go Go.RowKit
set_option linter.unusedVariables false

/-- a call of the bank, handed in by value, in its own block -/
theorem box_op (w : World) (kd : Int) (a b d : ByteArray) (x : U4) (t : TypeId) : ∀ W, Kept (w.alloc (.cells #[.int .i64 kd, .string a, .string b, .string d, .int .u64 (x.a : Int), .int .u64 (x.b : Int), .int .u64 (x.c : Int), .int .u64 (x.d : Int)] t)) W →
    W.cell? ⟨w.heap.size, 0, none⟩ = some (.int .i64 kd) ∧ W.cell? ⟨w.heap.size, 1, none⟩ = some (.string a) ∧ W.cell? ⟨w.heap.size, 2, none⟩ = some (.string b) ∧ W.cell? ⟨w.heap.size, 3, none⟩ = some (.string d) ∧
    W.cell? ⟨w.heap.size, 4, none⟩ = some (.int .u64 (x.a : Int)) ∧ W.cell? ⟨w.heap.size, 5, none⟩ = some (.int .u64 (x.b : Int)) ∧ W.cell? ⟨w.heap.size, 6, none⟩ = some (.int .u64 (x.c : Int)) ∧ W.cell? ⟨w.heap.size, 7, none⟩ = some (.int .u64 (x.d : Int)) := fun W h => by
  have hb := heap_alloc_new w (.cells #[.int .i64 kd, .string a, .string b, .string d, .int .u64 (x.a : Int), .int .u64 (x.b : Int), .int .u64 (x.c : Int), .int .u64 (x.d : Int)] t)
  exact ⟨h.cell (blk_cell hb 0), h.cell (blk_cell hb 1), h.cell (blk_cell hb 2), h.cell (blk_cell hb 3), h.cell (blk_cell hb 4), h.cell (blk_cell hb 5), h.cell (blk_cell hb 6), h.cell (blk_cell hb 7)⟩
end Go.Proofs.YtlkkjnacolmmpaaGreatDoor
namespace Go.Proofs.YtlkkjnacolmmpaaGreatDoor
set_option maxRecDepth 100000
open Go Go.RowKit
set_option linter.unusedVariables false

def accP : ByteArray := ⟨#[97, 99, 99, 47]⟩
def kAcc (a : ByteArray) : ByteArray := accP ++ a
theorem kAcc_size (a : ByteArray) : (kAcc a).size = a.size + 4 := by
  unfold kAcc
  rw [ByteArray.size_append]
  have : accP.size = 4 := by decide +kernel
  omega
theorem kAcc_fits {a : ByteArray} (h : identB a = true) : keyB (kAcc a) = true := by
  obtain ⟨h1, h2⟩ := identL_len2 h
  have h3 : a.data.toList.length = a.size := by simp
  have h4 := kAcc_size a
  unfold keyB
  simp only [Bool.and_eq_true, decide_eq_true_eq]
  omega

/-- an account's bytes -/
def accB (r : List UInt8) (b s : Nat) : List UInt8 := (encB r ++ be b 8) ++ be s 8
/-- an account, read -/
def readA (l : List UInt8) : Option (List UInt8 × Nat × Nat) :=
  if rEnd (rN (rN (rB l 0).2.1 (rB l 0).2.2).2.1 (rN (rB l 0).2.1 (rB l 0).2.2).2.2).2.1 (rN (rN (rB l 0).2.1 (rB l 0).2.2).2.1 (rN (rB l 0).2.1 (rB l 0).2.2).2.2).2.2 = 0 then
    some ((rB l 0).1, (rN (rB l 0).2.1 (rB l 0).2.2).1, (rN (rN (rB l 0).2.1 (rB l 0).2.2).2.1 (rN (rB l 0).2.1 (rB l 0).2.2).2.2).1)
  else none
theorem accB_len {r : List UInt8} {b s : Nat} (h : r.length ≤ 60000) : (accB r b s).length ≤ 65535 := by
  unfold accB encB
  simp only [List.length_append, be_length, List.length_take]
  omega
theorem readA_accB {r : List UInt8} {b s : Nat} (h1 : r.length ≤ 65535) (h2 : b < 18446744073709551616) (h3 : s < 18446744073709551616) : readA (accB r b s) = some (r, b, s) := by
  have e1 : rB (accB r b s) 0 = (r, be b 8 ++ be s 8, 0) := by
    unfold accB
    rw [List.append_assoc, rB_enc, List.take_of_length_le h1]
  have e2 := rN_enc b (be s 8) h2
  have e3 := rN_enc s [] h3
  rw [List.append_nil] at e3
  unfold readA
  simp only [e1, e2, e3]
  rfl
theorem rN_lt (l : List UInt8) (f : Int) : (rN l f).1 < 18446744073709551616 := by
  unfold rN
  split
  · show 0 < _; omega
  · split
    · show 0 < _; omega
    · have := beVal_lt8 (l.take 8) 8 (by simp; omega)
      show beVal (l.take 8) < _
      omega
/-- what an account's row reads as is in bounds -/
theorem readA_ok {l r : List UInt8} {b s : Nat} (h : readA l = some (r, b, s)) : r.length ≤ 65535 ∧ b < 18446744073709551616 ∧ s < 18446744073709551616 := by
  unfold readA at h
  split at h
  · have e := Option.some.inj h
    have e1 := congrArg Prod.fst e
    have e2 := congrArg (fun x => x.2.1) e
    have e3 := congrArg (fun x => x.2.2) e
    dsimp only at e1 e2 e3
    rw [← e1, ← e2, ← e3]
    exact ⟨rB_le _ _, rN_lt _ _, rN_lt _ _⟩
  · cases h
/-- the account at an address -/
def getA (R : List Pr) (a : ByteArray) : Option (List UInt8 × Nat × Nat) := (getL R (kAcc a)).bind readA
/-- a row put in -/
def putA (R : List Pr) (a : ByteArray) (r : List UInt8) (b s : Nat) : List Pr := putL (kAcc a, some (accB r b s)) R
theorem getA_put {R : List Pr} {a : ByteArray} {r : List UInt8} {b s : Nat} (h1 : r.length ≤ 65535) (h2 : b < 18446744073709551616) (h3 : s < 18446744073709551616) : getA (putA R a r b s) a = some (r, b, s) := by
  unfold getA putA
  rw [getL_putL, if_pos rfl]
  exact readA_accB h1 h2 h3
/-- how many rows there are, with one more put in -/
theorem putL_len {R : List Pr} (h : Rise R) (key : ByteArray) (v : List UInt8) : (putL (key, some v) R).length = R.length + (if (getL R key).isSome = true then 0 else 1) := by
  have h1 := (putL_perm key (some v) R).length_eq
  have h2 := (h.perm key).length_eq
  rw [h1, h2]
  cases getL R key <;> simp <;> omega
def createM (R : List Pr) (a : ByteArray) (r : List UInt8) : Int × List Pr :=
  if identB a = true then (if r.length = 32 then (if (getL R (kAcc a)).isSome = true then (111, R) else (0, putA R a r 0 0)) else (31, R)) else (40, R)
def rekeyM (R : List Pr) (a : ByteArray) (r : List UInt8) : Int × List Pr :=
  match getA R a with
  | none => (80, R)
  | some x => if r.length = 32 then (0, putA R a r x.2.2 x.2.2) else (31, R)
theorem create_no {R : List Pr} {a : ByteArray} {r : List UInt8} (h : (createM R a r).1 ≠ 0) : (createM R a r).2 = R ∧ ((getL R (kAcc a)).isSome = true ∨ r.length ≠ 32 ∨ (createM R a r).1 = 40) := by
  unfold createM at h ⊢
  split
  · split
    · split
      · exact ⟨rfl, Or.inl ‹_›⟩
      · next h1 h2 h3 => rw [if_pos h1, if_pos h2, if_neg h3] at h; exact absurd rfl h
    · exact ⟨rfl, Or.inr (Or.inl ‹_›)⟩
  · exact ⟨rfl, Or.inr (Or.inr rfl)⟩
theorem create_yes {R : List Pr} {a : ByteArray} {r : List UInt8} (h : (createM R a r).1 = 0) : identB a = true ∧ r.length = 32 ∧ getL R (kAcc a) = none ∧ (createM R a r).2 = putA R a r 0 0 := by
  unfold createM at h ⊢
  split
  · next h1 =>
    rw [if_pos h1] at h
    split
    · next h2 =>
      rw [if_pos h2] at h
      split
      · next h3 => rw [if_pos h3] at h; cases h
      · next h3 => exact ⟨h1, h2, by simpa using h3, rfl⟩
    · next h2 => rw [if_neg h2] at h; cases h
  · next h1 => rw [if_neg h1] at h; cases h
/-- made once, it is not made again -/
theorem create_twice {R : List Pr} {a : ByteArray} {r : List UInt8} (h : (createM R a r).1 = 0) : createM (createM R a r).2 a r = (111, (createM R a r).2) := by
  obtain ⟨h1, h2, h3, h4⟩ := create_yes h
  rw [h4]
  conv => lhs; unfold createM
  rw [if_pos h1, if_pos h2, if_pos]
  unfold putA
  rw [getL_putL, if_pos rfl]
  rfl
theorem Rise.putA {R : List Pr} (h : Rise R) {a : ByteArray} {r : List UInt8} {b s : Nat} : Rise (putA R a r b s) := h.put _
end Go.Proofs.YtlkkjnacolmmpaaGreatDoor
namespace Go.Proofs.YtlkkjnacolmmpaaGreatDoor
set_option maxRecDepth 100000
open Go Go.RowKit
set_option linter.unusedVariables false

theorem SeenL.put {y : Lyr} {l : List Lyr} {R : List Pr} (h : SeenL ⟨#[]⟩ (y :: l) R) {key : ByteArray} (hk : key.size ≤ maxLen) (v : List UInt8) : SeenL ⟨#[]⟩ (y.put key (some v) :: l) (putL (key, some v) R) where
  rise := h.rise.put _
  small := fun p hp => by
    rcases List.mem_append.1 ((putL_perm key _ R).mem_iff.1 hp) with hp | hp
    · rw [List.mem_singleton.1 hp]; exact hk
    · exact h.small p (List.mem_filter.1 hp).1
  get := fun s hs => by
    have h0 := h.get s hs
    rw [begB_empty, if_pos rfl] at h0 ⊢
    rw [getL_putL]
    unfold visV at h0 ⊢
    rw [visD_cons] at h0 ⊢
    have hv : (y.put key (some v)).f s = if s = key then some (some v) else y.f s := rfl
    rw [hv]
    by_cases e : s = key
    · rw [if_pos e, if_pos e]; rfl
    · rw [if_neg e, if_neg e]; exact h0
section
variable {W W' W2 : World} {y : Lyr} {R R2 : List Pr} {k : Nat} {B : Nat}
theorem Acc.get (h : Acc W y R k W') (key : ByteArray) (hk : key.size ≤ maxLen) :
    Calls Tryz.prog 59 #[.pointer (some ⟨y.b, 0, none⟩), .string key] W' fun e w' => ∃ v, e = .returned (.tuple #[v, .bool (getL R key).isSome]) ∧ Own w' W'.heap.size v ((getL R key).getD []) ∧ Below W'.heap.size W' w' := by
  obtain ⟨n, f, h1, h2, h3, h4⟩ := h.b
  have e := h2.get key hk
  rw [begB_empty, if_pos rfl] at e
  rw [e]
  exact get_any h1 key hk
/-- what is there stands under a key that fits, and is not too long -/
theorem Acc.fits (h : Acc W y R k W') {key : ByteArray} {v : List UInt8} (e : getL R key = some v) : keyB key = true ∧ v.length ≤ 65535 := by
  obtain ⟨n, f, h1, h2, h3, h4⟩ := h.b
  have hs := h2.small _ (getL_mem e)
  have e2 := h2.get key hs
  rw [begB_empty, if_pos rfl, e] at e2
  unfold visV at e2
  rw [visD_cons] at e2
  have hok := h1.1.ok
  dsimp only at e2 hok
  cases hf : f key with
  | none => rw [hf] at e2; simp [visD] at e2
  | some x =>
    rw [hf] at e2
    simp at e2
    exact hok key v (by rw [hf, ← e2])
theorem Acc.set (h : Acc W y R k W') (hn : y.n + k < maxLen) (key : ByteArray) (hk : key.size ≤ maxLen) (v : Value) (val : List UInt8) (hr : Rd W' W'.heap.size v val) (hp : pairB (key, val) = true) :
    Calls Tryz.prog 52 #[.pointer (some ⟨y.b, 0, none⟩), .string key, v] W' fun e w' => e = .returned (.int .i64 0) ∧ Acc W y (putL (key, some val) R) (k + 1) w' ∧ Kept W' w' := by
  obtain ⟨n, f, h1, h2, h3, h4⟩ := h.b
  refine (set_yes h1 (show n < maxLen by omega) key hk v val hr hp).mono ?_
  rintro e w' ⟨he, hq, hc⟩
  exact ⟨he, ⟨⟨n + 1, _, hq, h2.put hk val, by omega, h4.trans' hc⟩, h.p⟩, ⟨_, hc, h1.1.maps⟩⟩
end
end Go.Proofs.YtlkkjnacolmmpaaGreatDoor
namespace Go.Proofs.YtlkkjnacolmmpaaGreatDoor
set_option maxRecDepth 100000
open Go Go.RowKit
set_option linter.unusedVariables false

theorem set2P {w : World} {g : Nat} {x0 x1 : Value} {t : TypeId} (h : w.heap[g]? = some (.cells #[x0, x1] t (0, 0))) (y0 y1 : Value) : ((w.setCell ⟨g, 0, none⟩ y0).setCell ⟨g, 1, none⟩ y1).heap[g]? = some (.cells #[y0, y1] t (0, 0)) := by
  simpa using (blk_set (blk_set h 0 y0) 1 y1)
theorem below_set2P {B : Nat} {w w' : World} {g : Nat} (h : Below B w w') (hg : B ≤ g) (y0 y1 : Value) : Below B w ((w'.setCell ⟨g, 0, none⟩ y0).setCell ⟨g, 1, none⟩ y1) := ((h.setCell hg y0).setCell hg y1)
theorem set3P {w : World} {g : Nat} {x0 x1 x2 : Value} {t : TypeId} (h : w.heap[g]? = some (.cells #[x0, x1, x2] t (0, 0))) (y0 y1 y2 : Value) : (((w.setCell ⟨g, 0, none⟩ y0).setCell ⟨g, 1, none⟩ y1).setCell ⟨g, 2, none⟩ y2).heap[g]? = some (.cells #[y0, y1, y2] t (0, 0)) := by
  simpa using (blk_set (blk_set (blk_set h 0 y0) 1 y1) 2 y2)
theorem below_set3P {B : Nat} {w w' : World} {g : Nat} (h : Below B w w') (hg : B ≤ g) (y0 y1 y2 : Value) : Below B w (((w'.setCell ⟨g, 0, none⟩ y0).setCell ⟨g, 1, none⟩ y1).setCell ⟨g, 2, none⟩ y2) := (((h.setCell hg y0).setCell hg y1).setCell hg y2)
theorem set4P {w : World} {g : Nat} {x0 x1 x2 x3 : Value} {t : TypeId} (h : w.heap[g]? = some (.cells #[x0, x1, x2, x3] t (0, 0))) (y0 y1 y2 y3 : Value) : ((((w.setCell ⟨g, 0, none⟩ y0).setCell ⟨g, 1, none⟩ y1).setCell ⟨g, 2, none⟩ y2).setCell ⟨g, 3, none⟩ y3).heap[g]? = some (.cells #[y0, y1, y2, y3] t (0, 0)) := by
  simpa using (blk_set (blk_set (blk_set (blk_set h 0 y0) 1 y1) 2 y2) 3 y3)
theorem below_set4P {B : Nat} {w w' : World} {g : Nat} (h : Below B w w') (hg : B ≤ g) (y0 y1 y2 y3 : Value) : Below B w ((((w'.setCell ⟨g, 0, none⟩ y0).setCell ⟨g, 1, none⟩ y1).setCell ⟨g, 2, none⟩ y2).setCell ⟨g, 3, none⟩ y3) := ((((h.setCell hg y0).setCell hg y1).setCell hg y2).setCell hg y3)
theorem set5P {w : World} {g : Nat} {x0 x1 x2 x3 x4 : Value} {t : TypeId} (h : w.heap[g]? = some (.cells #[x0, x1, x2, x3, x4] t (0, 0))) (y0 y1 y2 y3 y4 : Value) : (((((w.setCell ⟨g, 0, none⟩ y0).setCell ⟨g, 1, none⟩ y1).setCell ⟨g, 2, none⟩ y2).setCell ⟨g, 3, none⟩ y3).setCell ⟨g, 4, none⟩ y4).heap[g]? = some (.cells #[y0, y1, y2, y3, y4] t (0, 0)) := by
  simpa using (blk_set (blk_set (blk_set (blk_set (blk_set h 0 y0) 1 y1) 2 y2) 3 y3) 4 y4)
theorem below_set5P {B : Nat} {w w' : World} {g : Nat} (h : Below B w w') (hg : B ≤ g) (y0 y1 y2 y3 y4 : Value) : Below B w (((((w'.setCell ⟨g, 0, none⟩ y0).setCell ⟨g, 1, none⟩ y1).setCell ⟨g, 2, none⟩ y2).setCell ⟨g, 3, none⟩ y3).setCell ⟨g, 4, none⟩ y4) := (((((h.setCell hg y0).setCell hg y1).setCell hg y2).setCell hg y3).setCell hg y4)
theorem set6P {w : World} {g : Nat} {x0 x1 x2 x3 x4 x5 : Value} {t : TypeId} (h : w.heap[g]? = some (.cells #[x0, x1, x2, x3, x4, x5] t (0, 0))) (y0 y1 y2 y3 y4 y5 : Value) : ((((((w.setCell ⟨g, 0, none⟩ y0).setCell ⟨g, 1, none⟩ y1).setCell ⟨g, 2, none⟩ y2).setCell ⟨g, 3, none⟩ y3).setCell ⟨g, 4, none⟩ y4).setCell ⟨g, 5, none⟩ y5).heap[g]? = some (.cells #[y0, y1, y2, y3, y4, y5] t (0, 0)) := by
  simpa using (blk_set (blk_set (blk_set (blk_set (blk_set (blk_set h 0 y0) 1 y1) 2 y2) 3 y3) 4 y4) 5 y5)
theorem below_set6P {B : Nat} {w w' : World} {g : Nat} (h : Below B w w') (hg : B ≤ g) (y0 y1 y2 y3 y4 y5 : Value) : Below B w ((((((w'.setCell ⟨g, 0, none⟩ y0).setCell ⟨g, 1, none⟩ y1).setCell ⟨g, 2, none⟩ y2).setCell ⟨g, 3, none⟩ y3).setCell ⟨g, 4, none⟩ y4).setCell ⟨g, 5, none⟩ y5) := ((((((h.setCell hg y0).setCell hg y1).setCell hg y2).setCell hg y3).setCell hg y4).setCell hg y5)
theorem set7P {w : World} {g : Nat} {x0 x1 x2 x3 x4 x5 x6 : Value} {t : TypeId} (h : w.heap[g]? = some (.cells #[x0, x1, x2, x3, x4, x5, x6] t (0, 0))) (y0 y1 y2 y3 y4 y5 y6 : Value) : (((((((w.setCell ⟨g, 0, none⟩ y0).setCell ⟨g, 1, none⟩ y1).setCell ⟨g, 2, none⟩ y2).setCell ⟨g, 3, none⟩ y3).setCell ⟨g, 4, none⟩ y4).setCell ⟨g, 5, none⟩ y5).setCell ⟨g, 6, none⟩ y6).heap[g]? = some (.cells #[y0, y1, y2, y3, y4, y5, y6] t (0, 0)) := by
  simpa using (blk_set (blk_set (blk_set (blk_set (blk_set (blk_set (blk_set h 0 y0) 1 y1) 2 y2) 3 y3) 4 y4) 5 y5) 6 y6)
theorem below_set7P {B : Nat} {w w' : World} {g : Nat} (h : Below B w w') (hg : B ≤ g) (y0 y1 y2 y3 y4 y5 y6 : Value) : Below B w (((((((w'.setCell ⟨g, 0, none⟩ y0).setCell ⟨g, 1, none⟩ y1).setCell ⟨g, 2, none⟩ y2).setCell ⟨g, 3, none⟩ y3).setCell ⟨g, 4, none⟩ y4).setCell ⟨g, 5, none⟩ y5).setCell ⟨g, 6, none⟩ y6) := (((((((h.setCell hg y0).setCell hg y1).setCell hg y2).setCell hg y3).setCell hg y4).setCell hg y5).setCell hg y6)
theorem set10P {w : World} {g : Nat} {x0 x1 x2 x3 x4 x5 x6 x7 x8 x9 : Value} {t : TypeId} (h : w.heap[g]? = some (.cells #[x0, x1, x2, x3, x4, x5, x6, x7, x8, x9] t (0, 0))) (y0 y1 y2 y3 y4 y5 y6 y7 y8 y9 : Value) : ((((((((((w.setCell ⟨g, 0, none⟩ y0).setCell ⟨g, 1, none⟩ y1).setCell ⟨g, 2, none⟩ y2).setCell ⟨g, 3, none⟩ y3).setCell ⟨g, 4, none⟩ y4).setCell ⟨g, 5, none⟩ y5).setCell ⟨g, 6, none⟩ y6).setCell ⟨g, 7, none⟩ y7).setCell ⟨g, 8, none⟩ y8).setCell ⟨g, 9, none⟩ y9).heap[g]? = some (.cells #[y0, y1, y2, y3, y4, y5, y6, y7, y8, y9] t (0, 0)) := by
  simpa using (blk_set (blk_set (blk_set (blk_set (blk_set (blk_set (blk_set (blk_set (blk_set (blk_set h 0 y0) 1 y1) 2 y2) 3 y3) 4 y4) 5 y5) 6 y6) 7 y7) 8 y8) 9 y9)
theorem below_set10P {B : Nat} {w w' : World} {g : Nat} (h : Below B w w') (hg : B ≤ g) (y0 y1 y2 y3 y4 y5 y6 y7 y8 y9 : Value) : Below B w ((((((((((w'.setCell ⟨g, 0, none⟩ y0).setCell ⟨g, 1, none⟩ y1).setCell ⟨g, 2, none⟩ y2).setCell ⟨g, 3, none⟩ y3).setCell ⟨g, 4, none⟩ y4).setCell ⟨g, 5, none⟩ y5).setCell ⟨g, 6, none⟩ y6).setCell ⟨g, 7, none⟩ y7).setCell ⟨g, 8, none⟩ y8).setCell ⟨g, 9, none⟩ y9) := ((((((((((h.setCell hg y0).setCell hg y1).setCell hg y2).setCell hg y3).setCell hg y4).setCell hg y5).setCell hg y6).setCell hg y7).setCell hg y8).setCell hg y9)
/-- made at w0: the result's block gr, the struct's block gd, the reader g -/
structure PZ (T : Nat) (w0 : World) (gr gd lo g : Nat) (tr td : TypeId) (cr cd : Array Value) (rest : List UInt8) (fault : Int) (W : World) : Prop where
  below : Below w0.heap.size w0 W
  hr : w0.heap.size ≤ gr
  hd : w0.heap.size ≤ gd
  res : W.heap[gr]? = some (.cells cr tr (0, 0))
  loc : W.heap[gd]? = some (.cells cd td (0, 0))
  rd : RdT T W lo g rest fault
  o1 : gr < lo
  o2 : g < gd
section
variable {T : Nat} {w0 W W' : World} {gr gd lo g : Nat} {tr td : TypeId} {cr cd : Array Value} {rest rest' : List UInt8} {fault fault' : Int}
theorem PZ.lo' (h : PZ T w0 gr gd lo g tr td cr cd rest fault W) : gr < g := Nat.lt_of_lt_of_le h.o1 h.rd.from_
theorem PZ.up (h : PZ T w0 gr gd lo g tr td cr cd rest fault W) (hb : Below W.heap.size W W') : PZ T w0 gr gd lo g tr td cr cd rest fault W' where
  below := below_chain h.below h.below.size hb
  hr := h.hr
  hd := h.hd
  res := (hb.block _ (blk_lt h.res)).trans h.res
  loc := (hb.block _ (blk_lt h.loc)).trans h.loc
  rd := h.rd.below hb
  o1 := h.o1
  o2 := h.o2
theorem PZ.call (h : PZ T w0 gr gd lo g tr td cr cd rest fault W) (hg : W.grownBy W' (some g)) (hr : RdT T W' lo g rest' fault') : PZ T w0 gr gd lo g tr td cr cd rest' fault' W' where
  below := h.below.grown hg h.below.size (fun k hk => by injection hk with hk; have := h.lo'; have := h.hr; omega)
  hr := h.hr
  hd := h.hd
  res := (hg.block _ (blk_lt h.res) (fun e => by injection e with e; have := h.lo'; omega)).trans h.res
  loc := (hg.block _ (blk_lt h.loc) (fun e => by injection e with e; have := h.o2; omega)).trans h.loc
  rd := hr
  o1 := h.o1
  o2 := h.o2
theorem PZ.set (h : PZ T w0 gr gd lo g tr td cr cd rest fault W) (i : Nat) (u : Value) : PZ T w0 gr gd lo g tr td cr (cd.setIfInBounds i u) rest fault (W.setCell ⟨gd, i, none⟩ u) where
  below := h.below.setCell h.hd u
  hr := h.hr
  hd := h.hd
  res := (Below.heap_setCell W ⟨gd, i, none⟩ u gr (by have := h.lo'; have := h.o2; show gr ≠ gd; omega)).trans h.res
  loc := blk_set h.loc i u
  rd := h.rd.grown (grown_setR W gd i u) (Or.inr h.o2)
  o1 := h.o1
  o2 := h.o2
theorem PZ.other (h : PZ T w0 gr gd lo g tr td cr cd rest fault W) {gu : Nat} (hu : gd < gu) (i : Nat) (u : Value) : PZ T w0 gr gd lo g tr td cr cd rest fault (W.setCell ⟨gu, i, none⟩ u) where
  below := h.below.setCell (by have := h.hd; show w0.heap.size ≤ gu; omega) u
  hr := h.hr
  hd := h.hd
  res := (Below.heap_setCell W ⟨gu, i, none⟩ u gr (by have := h.lo'; have := h.o2; show gr ≠ gu; omega)).trans h.res
  loc := (Below.heap_setCell W ⟨gu, i, none⟩ u gd (by show gd ≠ gu; omega)).trans h.loc
  rd := h.rd.grown (grown_setR W gu i u) (Or.inr (by have := h.o2; omega))
  o1 := h.o1
  o2 := h.o2
theorem PZ.drew (h : PZ T w0 gr gd lo g tr td cr cd rest fault W) : PZ T w0 gr gd lo g tr td cr cd rest fault W.drew := h.up (Below.drew (Below.refl _ _))
theorem PZ.alloc (h : PZ T w0 gr gd lo g tr td cr cd rest fault W) (o : Obj) : PZ T w0 gr gd lo g tr td cr cd rest fault (W.alloc o) := h.up ((Below.refl _ _).alloc (Nat.le_refl _) o)
/-- the result's block, all cells stored -/
theorem PZ.out (h : PZ T w0 gr gd lo g tr td cr cd rest fault W) : Below w0.heap.size w0 W := h.below
end
end Go.Proofs.YtlkkjnacolmmpaaGreatDoor
namespace Go.Proofs.YtlkkjnacolmmpaaGreatDoor
set_option maxRecDepth 100000
open Go Go.RowKit
set_option linter.unusedVariables false

/-- a field, read out of a struct, is equal to itself -/
def SelfF (xs : Array Value) (f : Field) : Prop := ∃ a, (∀ w, (part f.type xs f.offset).run Tryz.prog w = .ok a w) ∧ ∀ w, (Op.equalIn 9999 f.type a a).run Tryz.prog w = .ok true w
theorem eqFields_self {xs : Array Value} : ∀ {fs : List Field} (h : ∀ f ∈ fs, SelfF xs f) (w : World), (Op.eqFields 9999 xs xs fs).run Tryz.prog w = .ok true w
  | [], _, w => by simp [Op.eqFields]
  | f :: fs, h, w => by
    obtain ⟨a, h1, h2⟩ := h f (by simp)
    have ih := eqFields_self (fun g hg => h g (List.mem_cons_of_mem _ hg)) w
    simp only [Op.eqFields, Sem.run_bind, Sem.run_ite]
    split
    · simp [h1, h2, Result.andThen, ih]
    · exact ih
theorem self_str {xs : Array Value} {f : Field} (s : ByteArray) (ht : Tryz.prog.underlying f.type = some .string) (hp : ∀ w, (part f.type xs f.offset).run Tryz.prog w = .ok (.string s) w) : SelfF xs f :=
  ⟨_, hp, fun w => by rw [run_equalIn_string w 9998 f.type s s ht]; simp⟩
theorem self_int {xs : Array Value} {f : Field} {q k : IntKind} (z : Int) (ht : Tryz.prog.underlying f.type = some (.int q)) (hp : ∀ w, (part f.type xs f.offset).run Tryz.prog w = .ok (.int k z) w) : SelfF xs f :=
  ⟨_, hp, fun w => by rw [run_equalIn_int w 9998 f.type k q z z ht]; simp⟩
theorem self_bool {xs : Array Value} {f : Field} (b : Bool) (ht : Tryz.prog.underlying f.type = some .bool) (hp : ∀ w, (part f.type xs f.offset).run Tryz.prog w = .ok (.bool b) w) : SelfF xs f :=
  ⟨_, hp, fun w => by rw [run_equalIn_bool' w 9998 f.type b b ht]; simp⟩
theorem eqInt' (a b : Nat) (w : World) : (Op.equalIn 9998 23 (.int .u64 (a : Int)) (.int .u64 (b : Int))).run Tryz.prog w = .ok (decide (a = b)) w := by
  rw [run_equalIn_int w 9997 _ _ _ _ _ Tryz.underlying23]
  congr 1
  rw [Bool.eq_iff_iff]; simp; omega
theorem run_equal4' (x y : U4) (w : World) : (Op.equalIn 9999 74 (.agg x.cells) (.agg y.cells)).run Tryz.prog w = .ok (eqB x y) w := by
  rw [Op.equalIn]
  simp only [Sem.run_bind, run_underlying Tryz.underlying74, Result.andThen_ok, size_u64, Std.Legacy.Range.forIn_eq_forIn_range', Std.Legacy.Range.size, Nat.sub_zero, Nat.add_sub_cancel, Nat.div_one]
  rw [show List.range' 0 4 1 = [0, 1, 2, 3] from rfl]
  simp only [List.forIn_cons, List.forIn_nil, Sem.run_bind, part_at x _ (show 0 < 4 by omega), part_at x _ (show 1 < 4 by omega), part_at x _ (show 2 < 4 by omega), part_at x _ (show 3 < 4 by omega), part_at y _ (show 0 < 4 by omega), part_at y _ (show 1 < 4 by omega), part_at y _ (show 2 < 4 by omega), part_at y _ (show 3 < 4 by omega), Result.andThen_ok,
    run_equalIn_int _ _ _ _ _ _ _ Tryz.underlying23, beq_nat]
  unfold eqB
  by_cases h1 : x.a = y.a <;> by_cases h2 : x.b = y.b <;> by_cases h3 : x.c = y.c <;> by_cases h4 : x.d = y.d <;> simp [U4.at, h1, h2, h3, h4, part1, part2, part3, eqInt', Result.andThen]
theorem self_u4 {xs : Array Value} {f : Field} (x : U4) (ht : f.type = 74) (hp : ∀ w, (part 74 xs f.offset).run Tryz.prog w = .ok x.val w) : SelfF xs f :=
  ⟨x.val, by rw [ht]; exact hp, fun w => by rw [ht]; show (Op.equalIn 9999 _ (.agg x.cells) (.agg x.cells)).run _ _ = _; rw [run_equal4', eqB_refl]⟩
theorem eql_self {t : TypeId} {cs : Array Value} (ht : Tryz.prog.underlying t = some (.struct (Tryz.prog.fieldsOf t))) (hp : Tryz.prog.stoodInHeld t = false) (h : ∀ f ∈ (Tryz.prog.fieldsOf t).toList, SelfF cs f) (W : World) :
    (binOp .eql t (.agg cs) (.agg cs)).run Tryz.prog W = .ok (.bool true) W := by
  rw [run_eql_struct, run_equalIn_struct W 9999 t cs cs ht hp, eqFields_self h]
  rfl
theorem neq_self {t : TypeId} {cs : Array Value} (ht : Tryz.prog.underlying t = some (.struct (Tryz.prog.fieldsOf t))) (hp : Tryz.prog.stoodInHeld t = false) (h : ∀ f ∈ (Tryz.prog.fieldsOf t).toList, SelfF cs f) (W : World) :
    (binOp .neq t (.agg cs) (.agg cs)).run Tryz.prog W = .ok (.bool false) W := by
  rw [run_neq_struct, run_equalIn_struct W 9999 t cs cs ht hp, eqFields_self h]
  rfl
end Go.Proofs.YtlkkjnacolmmpaaGreatDoor
