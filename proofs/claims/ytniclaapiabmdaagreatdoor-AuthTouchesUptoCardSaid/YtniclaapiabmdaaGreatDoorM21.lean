/- Texts joined: BankH0, AuthA1, AuthB, AuthC, AuthD, AuthE, AuthF, AuthP. -/
import Derived.Test.YtniclaapiabmdaaGreatDoorM10
import Derived.Test.YtniclaapiabmdaaGreatDoorM20
import Derived.Test.YtniclaapiabmdaaGreatDoorM07
import Derived.Test.YtniclaapiabmdaaGreatDoorM06
import Derived.Test.YtniclaapiabmdaaGreatDoorM11
import Derived.Test.YtniclaapiabmdaaGreatDoorM02
import Derived.Deep.RegionHeldLaw
import Derived.Test.YtniclaapiabmdaaGreatDoorM16
import Derived.Test.YtniclaapiabmdaaGreatDoorM17
namespace Go.Proofs.YtniclaapiabmdaaGreatDoor
set_option maxRecDepth 100000
open Go Go.RowKit
set_option linter.unusedVariables false

/-- pairs stay where maps alone have turned -/
theorem RdP.kept {w w' : World} {v : Value} {ps : List Pr} (h : RdP w w.heap.size v ps) (hk : Kept w w') : RdP w' w'.heap.size v ps := by
  have hsz : w.heap.size ≤ w'.heap.size := by obtain ⟨F, h1, _⟩ := hk; exact h1.size
  obtain ⟨A, c, hv, h1, h2, hp⟩ := h
  refine ⟨A, c, hv, h1, h2, fun h0 => ?_⟩
  obtain ⟨b, o, hA, hb, hcell⟩ := hp h0
  refine ⟨b, o, hA, by omega, fun j hj => ?_⟩
  obtain ⟨q1, x, q2, q3⟩ := hcell j hj
  exact ⟨hk.cell q1, x, hk.cell q2, hk.rd q3⟩
theorem Kept.of_below {w w' : World} (h : Below w.heap.size w w') : Kept w w' := ⟨fun _ => False, Chg.of_below h _, fun _ k => k.elim⟩

theorem Kept.trans {w w1 w2 : World} (h : Kept w w1) (k : Kept w1 w2) : Kept w w2 := by
  obtain ⟨F, h1, h2⟩ := h
  obtain ⟨G, k1, k2⟩ := k
  have hm : ∀ q, G q → q < w.heap.size → ¬ F q → ∃ es c, w.heap[q]? = some (.map es c) := fun q hq hl hn => by
    obtain ⟨es, c, e⟩ := k2 q hq
    exact ⟨es, c, (h1.block q hl hn).symm.trans e⟩
  refine ⟨fun q => q < w.heap.size ∧ (F q ∨ G q), ⟨k1.os.trans h1.os, k1.tape.trans h1.tape, k1.output.trans h1.output, Nat.le_trans h1.size k1.size, fun q hq hn => ?_⟩, fun q hq => ?_⟩
  · have hF : ¬ F q := fun e => hn ⟨hq, Or.inl e⟩
    have hG : ¬ G q := fun e => hn ⟨hq, Or.inr e⟩
    exact (k1.block q (Nat.lt_of_lt_of_le hq h1.size) hG).trans (h1.block q hq hF)
  · obtain ⟨hl, hq⟩ := hq
    by_cases hF : F q
    · exact h2 q hF
    · exact hm q (hq.resolve_left hF) hl hF
/-- a bank's store behind calls: made at W, R is seen of it -/
structure Acc (W : World) (y : Lyr) (R : List Pr) (k : Nat) (W' : World) : Prop where
  b : BankS W y [] R k W'
  p : PileS W [y]
section
variable {W W' W2 : World} {y : Lyr} {R R2 : List Pr} {k : Nat} {B : Nat}
theorem Acc.kept (h : Acc W y R k W') : Kept W W' := by
  obtain ⟨n, f, -, -, -, h4⟩ := h.b
  exact ⟨_, h4, h.p.1.maps⟩
theorem Acc.below (h : Acc W y R k W') (hB : B ≤ y.m) (hW : B ≤ W.heap.size) : Below B W W' := by
  obtain ⟨n, f, -, -, -, h4⟩ := h.b
  exact h4.below (fun k e => by rw [e]; exact hB) hW
theorem Acc.up (h : Acc W y R k W') (hb : Below W'.heap.size W' W2) : Acc W y R k W2 := ⟨h.b.up hb (Nat.le_refl k), h.p⟩
theorem Acc.made {ps : List Pr} (h : PileS W [y]) (hl : LyrIs ps y) (hr : Rise ps) (hs : ∀ p ∈ ps, p.1.size ≤ maxLen) : Acc W y ps 0 W := ⟨BankS.refl h (seen_bot0 hl hr hs), h⟩
theorem Acc.bal (h : Acc W y R k W') (a d : ByteArray) (ha : a.size ≤ 100000000) (hd : d.size ≤ 100000000) :
    Calls Tryz.prog 12 #[.pointer (some ⟨y.b, 0, none⟩), .string a, .string d] W' fun e w' => e = .returned (balM R a d).val ∧ Below W'.heap.size W' w' := by
  obtain ⟨n, f, h1, h2, h3, h4⟩ := h.b
  rw [← balV_seen h2 a d]
  exact bal_any h1 a d ha hd
theorem BankS.join {n : Nat} {f : LF} {j : Nat} (h3 : n ≤ y.n + k) (h4 : Chg W W' (fun k => k = y.m)) (h : BankS W' ⟨y.b, y.m, n, f⟩ [] R2 j W2) : BankS W y [] R2 (k + j) W2 := by
  obtain ⟨n', f', g1, g2, g3, g4⟩ := h
  dsimp only at g1 g2 g3 g4
  exact ⟨n', f', g1, g2, by omega, h4.trans' g4⟩
theorem Acc.send (h : Acc W y R k W') (hn : y.n + k + 2 ≤ maxLen) (a b d : ByteArray) (x : U4) (hx : x.ok) (ha : a.size ≤ 100000000) (hb : b.size ≤ 100000000) (hd : d.size ≤ 100000000) :
    Calls Tryz.prog 36 #[.pointer (some ⟨y.b, 0, none⟩), .string a, .string b, .string d, x.val] W' fun e w' => e = .returned (.int .i64 (sendM R a b d x).1) ∧ Acc W y (sendM R a b d x).2 (k + 2) w' ∧ Kept W' w' := by
  obtain ⟨n, f, h1, h2, h3, h4⟩ := h.b
  refine (send_any h1 h2 (show n + 2 ≤ maxLen by omega) a b d x hx ha hb hd).mono ?_
  rintro e w' ⟨he, hq⟩
  exact ⟨he, ⟨BankS.join h3 h4 hq, h.p⟩, Acc.kept ⟨hq, h1⟩⟩
theorem Acc.pairs (h : Acc W y R k W') (hn : y.n + k ≤ 1000000000) (pfx : ByteArray) (hp : pfx.size ≤ maxLen) :
    Calls Tryz.prog 14 #[.pointer (some ⟨y.b, 0, none⟩), .string pfx] W' fun e w' => ∃ v, e = .returned v ∧ OutP w' W'.heap.size v (R.filter (fun p => begB pfx p.1)) ∧ Below W'.heap.size W' w' := by
  obtain ⟨n, f, h1, h2, h3, h4⟩ := h.b
  have hs : SeenL pfx [⟨y.b, y.m, n, f⟩] (R.filter (fun p => begB pfx p.1)) := ⟨h2.rise.filter _, fun p hp => h2.small p (List.mem_filter.1 hp).1, fun s hs => by
    have := h2.get s hs
    rw [begB_empty, if_pos rfl] at this
    rw [getL_filter, this]⟩
  exact pairs_any h1 (by simp [sumN]; omega) pfx hp hs
end
theorem filter_all {R : List Pr} : R.filter (fun p => begB ⟨#[]⟩ p.1) = R := List.filter_eq_self.2 fun p _ => begB_empty _

/-! ### what the law's fixed answers come to -/
def kAnn : ByteArray := ⟨#[97, 110, 110]⟩
def kBob : ByteArray := ⟨#[98, 111, 98]⟩
def kAtom : ByteArray := ⟨#[97, 116, 111, 109]⟩
def fixR1 : List Pr := (mintM [] kAnn kAtom ⟨10, 0, 0, 0⟩).2
def fixR2 : List Pr := (sendM fixR1 kAnn kBob kAtom ⟨4, 0, 0, 0⟩).2
end Go.Proofs.YtniclaapiabmdaaGreatDoor
namespace Go.Proofs.YtniclaapiabmdaaGreatDoor
set_option maxRecDepth 100000
open Go Go.RowKit
set_option linter.unusedVariables false

end Go.Proofs.YtniclaapiabmdaaGreatDoor
namespace Go.Proofs.YtniclaapiabmdaaGreatDoor
set_option maxRecDepth 100000
open Go Go.RowKit
set_option linter.unusedVariables false

theorem Kept.block {w w' : World} (h : Kept w w') {b : Nat} {cs : Array Value} {t : TypeId} {fr : Nat × Nat} (hb : w.heap[b]? = some (.cells cs t fr)) : w'.heap[b]? = some (.cells cs t fr) := by
  obtain ⟨F, h1, h2⟩ := h
  have hn : ¬ F b := fun k => by
    obtain ⟨es, c, e⟩ := h2 _ k
    rw [hb] at e; cases e
  exact (h1.block b (blk_lt hb) hn).trans hb
theorem Acc.root {W W' : World} {y : Lyr} {R : List Pr} {k : Nat} (h : Acc W y R k W') (hn : y.n + k ≤ 1000000000) (fr : TypeId × Nat × Nat) (hk : W'.heap[0]? = some (.cells kVals fr.1 fr.2)) :
    Calls Tryz.prog 8 #[.pointer (some ⟨y.b, 0, none⟩)] W' fun e w' => ∃ v, e = .returned v ∧ Own w' W'.heap.size v (rootM R).1 ∧ Below W'.heap.size W' w' := by
  obtain ⟨n, f, h1, h2, h3, h4⟩ := h.b
  exact sroot_any h1 (by simp [sumN]; omega) h2 fr hk
end Go.Proofs.YtniclaapiabmdaaGreatDoor
namespace Go.Proofs.YtniclaapiabmdaaGreatDoor
set_option maxRecDepth 100000
open Go
set_option linter.unusedVariables false
/-- what a call of the bank makes of a store -/
def stepM (R : List Pr) (kd : Int) (a c d : ByteArray) (x : U4) : List Pr := if kd = 1 then (mintM R a d x).2 else if kd = 2 then (burnM R a d x).2 else if kd = 3 then (sendM R a c d x).2 else R
theorem addU_okm (x y : U4) : (addU x y).1.ok := by
  unfold addU
  split
  · exact ofN_ok _
  · exact zero_ok
theorem subU_okm (x y : U4) : (subU x y).1.ok := by
  unfold subU
  split
  · exact ofN_ok _
  · exact zero_ok
section
variable {R : List Pr} {a b c d : ByteArray} {x : U4}
theorem CanonL.nil : CanonL [] := fun p hp => by cases hp
theorem CanonL.change {op : U4 → U4 → U4 × Bool} {u : Int} (h : CanonL R) (ho : ∀ x y, (op x y).1.ok) : CanonL (changeM op u R a d x).2 := by
  unfold changeM
  split
  · split
    · exact (h.keep _ (ho _ _)).keep _ (ho _ _)
    · exact h
  · exact h
theorem CanonL.send (h : CanonL R) : CanonL (sendM R a b d x).2 := by
  unfold sendM
  split
  · split
    · split
      · split
        · exact h
        · split
          · exact (h.keep _ (subU_okm _ _)).keep _ (addU_okm _ _)
          · exact h
      · exact h
    · exact h
  · exact h
end
end Go.Proofs.YtniclaapiabmdaaGreatDoor
namespace Go.Proofs.YtniclaapiabmdaaGreatDoor
set_option maxRecDepth 100000
open Go Go.RowKit
set_option linter.unusedVariables false

/-- one call of a script -/
structure BOp where
  kd : Int
  a : ByteArray
  c : ByteArray
  d : ByteArray
  x : U4
def BOp.cells (o : BOp) : List Value := [.int .i64 o.kd, .string o.a, .string o.c, .string o.d, .int .u64 (o.x.a : Int), .int .u64 (o.x.b : Int), .int .u64 (o.x.c : Int), .int .u64 (o.x.d : Int)]
def BOp.fine (o : BOp) : Prop := o.x.ok ∧ o.a.size ≤ 100000000 ∧ o.c.size ≤ 100000000 ∧ o.d.size ≤ 100000000
/-- a row of calls, read -/
def RdB (w : World) (B : Nat) (v : Value) (ops : List BOp) : Prop :=
  ∃ A c, v = .slice A ops.length c ∧ ops.length ≤ c ∧ c ≤ maxLen ∧ (0 < ops.length → ∃ b o, A = some ⟨b, o, none⟩ ∧ b < B ∧ ∀ j (h : j < ops.length), ∀ i, i < 8 → w.cell? ⟨b, o + j * 8 + i, none⟩ = (ops[j]).cells[i]?)
end Go.Proofs.YtniclaapiabmdaaGreatDoor
namespace Go.Proofs.YtniclaapiabmdaaGreatDoor
set_option maxRecDepth 100000
open Go Go.RowKit
set_option linter.unusedVariables false

end Go.Proofs.YtniclaapiabmdaaGreatDoor
namespace Go.Proofs.YtniclaapiabmdaaGreatDoor
set_option maxRecDepth 100000
open Go Go.RowKit
set_option linter.unusedVariables false

def accP : ByteArray := ⟨#[97, 99, 99, 47]⟩
def kAcc (a : ByteArray) : ByteArray := accP ++ a
theorem kAcc_size (a : ByteArray) : (kAcc a).size = a.size + 4 := by
  unfold kAcc
  rw [ByteArray.size_append]
  have : accP.size = 4 := by decide +kernel
  omega
theorem kAcc_fits {a : ByteArray} (h : identB a = true) : keyB (kAcc a) = true := by
  obtain ⟨h1, h2⟩ := identL_len2 h
  have h3 : a.data.toList.length = a.size := by simp
  have h4 := kAcc_size a
  unfold keyB
  simp only [Bool.and_eq_true, decide_eq_true_eq]
  omega

/-- an account's bytes -/
def accB (r : List UInt8) (b s : Nat) : List UInt8 := (encB r ++ be b 8) ++ be s 8
/-- an account, read -/
def readA (l : List UInt8) : Option (List UInt8 × Nat × Nat) :=
  if rEnd (rN (rN (rB l 0).2.1 (rB l 0).2.2).2.1 (rN (rB l 0).2.1 (rB l 0).2.2).2.2).2.1 (rN (rN (rB l 0).2.1 (rB l 0).2.2).2.1 (rN (rB l 0).2.1 (rB l 0).2.2).2.2).2.2 = 0 then
    some ((rB l 0).1, (rN (rB l 0).2.1 (rB l 0).2.2).1, (rN (rN (rB l 0).2.1 (rB l 0).2.2).2.1 (rN (rB l 0).2.1 (rB l 0).2.2).2.2).1)
  else none
theorem accB_len {r : List UInt8} {b s : Nat} (h : r.length ≤ 60000) : (accB r b s).length ≤ 65535 := by
  unfold accB encB
  simp only [List.length_append, be_length, List.length_take]
  omega
theorem readA_accB {r : List UInt8} {b s : Nat} (h1 : r.length ≤ 65535) (h2 : b < 18446744073709551616) (h3 : s < 18446744073709551616) : readA (accB r b s) = some (r, b, s) := by
  have e1 : rB (accB r b s) 0 = (r, be b 8 ++ be s 8, 0) := by
    unfold accB
    rw [List.append_assoc, rB_enc, List.take_of_length_le h1]
  have e2 := rN_enc b (be s 8) h2
  have e3 := rN_enc s [] h3
  rw [List.append_nil] at e3
  unfold readA
  simp only [e1, e2, e3]
  rfl
theorem rN_lt (l : List UInt8) (f : Int) : (rN l f).1 < 18446744073709551616 := by
  unfold rN
  split
  · show 0 < _; omega
  · split
    · show 0 < _; omega
    · have := beVal_lt8 (l.take 8) 8 (by simp; omega)
      show beVal (l.take 8) < _
      omega
/-- what an account's row reads as is in bounds -/
theorem readA_ok {l r : List UInt8} {b s : Nat} (h : readA l = some (r, b, s)) : r.length ≤ 65535 ∧ b < 18446744073709551616 ∧ s < 18446744073709551616 := by
  unfold readA at h
  split at h
  · have e := Option.some.inj h
    have e1 := congrArg Prod.fst e
    have e2 := congrArg (fun x => x.2.1) e
    have e3 := congrArg (fun x => x.2.2) e
    dsimp only at e1 e2 e3
    rw [← e1, ← e2, ← e3]
    exact ⟨rB_le _ _, rN_lt _ _, rN_lt _ _⟩
  · cases h
/-- the account at an address -/
def getA (R : List Pr) (a : ByteArray) : Option (List UInt8 × Nat × Nat) := (getL R (kAcc a)).bind readA
/-- a row put in -/
def putA (R : List Pr) (a : ByteArray) (r : List UInt8) (b s : Nat) : List Pr := putL (kAcc a, some (accB r b s)) R
theorem getA_put {R : List Pr} {a : ByteArray} {r : List UInt8} {b s : Nat} (h1 : r.length ≤ 65535) (h2 : b < 18446744073709551616) (h3 : s < 18446744073709551616) : getA (putA R a r b s) a = some (r, b, s) := by
  unfold getA putA
  rw [getL_putL, if_pos rfl]
  exact readA_accB h1 h2 h3
def createM (R : List Pr) (a : ByteArray) (r : List UInt8) : Int × List Pr :=
  if identB a = true then (if r.length = 32 then (if (getL R (kAcc a)).isSome = true then (111, R) else (0, putA R a r 0 0)) else (31, R)) else (40, R)
def rekeyM (R : List Pr) (a : ByteArray) (r : List UInt8) : Int × List Pr :=
  match getA R a with
  | none => (80, R)
  | some x => if r.length = 32 then (0, putA R a r x.2.2 x.2.2) else (31, R)
theorem create_yes {R : List Pr} {a : ByteArray} {r : List UInt8} (h : (createM R a r).1 = 0) : identB a = true ∧ r.length = 32 ∧ getL R (kAcc a) = none ∧ (createM R a r).2 = putA R a r 0 0 := by
  unfold createM at h ⊢
  split
  · next h1 =>
    rw [if_pos h1] at h
    split
    · next h2 =>
      rw [if_pos h2] at h
      split
      · next h3 => rw [if_pos h3] at h; cases h
      · next h3 => exact ⟨h1, h2, by simpa using h3, rfl⟩
    · next h2 => rw [if_neg h2] at h; cases h
  · next h1 => rw [if_neg h1] at h; cases h
/-- made once, it is not made again -/
theorem create_twice {R : List Pr} {a : ByteArray} {r : List UInt8} (h : (createM R a r).1 = 0) : createM (createM R a r).2 a r = (111, (createM R a r).2) := by
  obtain ⟨h1, h2, h3, h4⟩ := create_yes h
  rw [h4]
  conv => lhs; unfold createM
  rw [if_pos h1, if_pos h2, if_pos]
  unfold putA
  rw [getL_putL, if_pos rfl]
  rfl
theorem Rise.putA {R : List Pr} (h : Rise R) {a : ByteArray} {r : List UInt8} {b s : Nat} : Rise (putA R a r b s) := h.put _
end Go.Proofs.YtniclaapiabmdaaGreatDoor
namespace Go.Proofs.YtniclaapiabmdaaGreatDoor
set_option maxRecDepth 100000
open Go Go.RowKit
set_option linter.unusedVariables false

theorem SeenL.put {y : Lyr} {l : List Lyr} {R : List Pr} (h : SeenL ⟨#[]⟩ (y :: l) R) {key : ByteArray} (hk : key.size ≤ maxLen) (v : List UInt8) : SeenL ⟨#[]⟩ (y.put key (some v) :: l) (putL (key, some v) R) where
  rise := h.rise.put _
  small := fun p hp => by
    rcases List.mem_append.1 ((putL_perm key _ R).mem_iff.1 hp) with hp | hp
    · rw [List.mem_singleton.1 hp]; exact hk
    · exact h.small p (List.mem_filter.1 hp).1
  get := fun s hs => by
    have h0 := h.get s hs
    rw [begB_empty, if_pos rfl] at h0 ⊢
    rw [getL_putL]
    unfold visV at h0 ⊢
    rw [visD_cons] at h0 ⊢
    have hv : (y.put key (some v)).f s = if s = key then some (some v) else y.f s := rfl
    rw [hv]
    by_cases e : s = key
    · rw [if_pos e, if_pos e]; rfl
    · rw [if_neg e, if_neg e]; exact h0
section
variable {W W' W2 : World} {y : Lyr} {R R2 : List Pr} {k : Nat} {B : Nat}
theorem Acc.get (h : Acc W y R k W') (key : ByteArray) (hk : key.size ≤ maxLen) :
    Calls Tryz.prog 17 #[.pointer (some ⟨y.b, 0, none⟩), .string key] W' fun e w' => ∃ v, e = .returned (.tuple #[v, .bool (getL R key).isSome]) ∧ Own w' W'.heap.size v ((getL R key).getD []) ∧ Below W'.heap.size W' w' := by
  obtain ⟨n, f, h1, h2, h3, h4⟩ := h.b
  have e := h2.get key hk
  rw [begB_empty, if_pos rfl] at e
  rw [e]
  exact get_any h1 key hk
/-- what is there stands under a key that fits, and is not too long -/
theorem Acc.fits (h : Acc W y R k W') {key : ByteArray} {v : List UInt8} (e : getL R key = some v) : keyB key = true ∧ v.length ≤ 65535 := by
  obtain ⟨n, f, h1, h2, h3, h4⟩ := h.b
  have hs := h2.small _ (getL_mem e)
  have e2 := h2.get key hs
  rw [begB_empty, if_pos rfl, e] at e2
  unfold visV at e2
  rw [visD_cons] at e2
  have hok := h1.1.ok
  dsimp only at e2 hok
  cases hf : f key with
  | none => rw [hf] at e2; simp [visD] at e2
  | some x =>
    rw [hf] at e2
    simp at e2
    exact hok key v (by rw [hf, ← e2])
theorem Acc.set (h : Acc W y R k W') (hn : y.n + k < maxLen) (key : ByteArray) (hk : key.size ≤ maxLen) (v : Value) (val : List UInt8) (hr : Rd W' W'.heap.size v val) (hp : pairB (key, val) = true) :
    Calls Tryz.prog 28 #[.pointer (some ⟨y.b, 0, none⟩), .string key, v] W' fun e w' => e = .returned (.int .i64 0) ∧ Acc W y (putL (key, some val) R) (k + 1) w' ∧ Kept W' w' := by
  obtain ⟨n, f, h1, h2, h3, h4⟩ := h.b
  refine (set_yes h1 (show n < maxLen by omega) key hk v val hr hp).mono ?_
  rintro e w' ⟨he, hq, hc⟩
  exact ⟨he, ⟨⟨n + 1, _, hq, h2.put hk val, by omega, h4.trans' hc⟩, h.p⟩, ⟨_, hc, h1.1.maps⟩⟩
end
theorem accKey_any (a : ByteArray) (w : World) (ha : a.size ≤ 100000000) : Calls Tryz.prog 38 #[.string a] w fun e w' => e = .returned (.string (kAcc a)) ∧ w = w' := by
  have s1 : accP.size = 4 := rfl
  have h1 := fun W => txt_add accP a (by rw [s1]; omega) W
  unfold kAcc
  unfold accP at *
  go_enter Tryz.func38, Tryz.ntmps38
  go_wp2
  go_ret
  exact ⟨rfl, rfl⟩
end Go.Proofs.YtniclaapiabmdaaGreatDoor
namespace Go.Proofs.YtniclaapiabmdaaGreatDoor
set_option maxRecDepth 100000
open Go Go.RowKit
set_option linter.unusedVariables false

set_option maxHeartbeats 4000000 in
theorem aput_any {W W' : World} {y : Lyr} {R : List Pr} {k : Nat} (h : Acc W y R k W') (hn : y.n + k < maxLen) (a : ByteArray) (ha : keyB (kAcc a) = true) (v : Value) (r : List UInt8) (hr : Rd W' W'.heap.size v r) (hl : r.length ≤ 60000) (b s : Nat) (hb : b < 18446744073709551616) (hs : s < 18446744073709551616) :
    Calls Tryz.prog 37 #[.pointer (some ⟨y.b, 0, none⟩), .string a, .agg #[v, .int .u64 (b : Int), .int .u64 (s : Int)]] W' fun e w' => e = .returned (.tuple #[]) ∧ Acc W y (putA R a r b s) (k + 1) w' ∧ Kept W' w' := by
  have hk2 : (kAcc a).size ≤ 200 := by simp only [keyB, Bool.and_eq_true, decide_eq_true_eq] at ha; exact ha.2
  have has : a.size ≤ 200 := by have := kAcc_size a; omega
  have HK := Lib.hid (fun W => (accKey_any a W (by omega)).mono fun e w' ⟨h1, h2⟩ => (⟨h1, h2.symm⟩ : _ ∧ w' = W))
  have hpb : pairB (kAcc a, accB r b s) = true := by
    unfold pairB
    simp only [Bool.and_eq_true, decide_eq_true_eq]
    exact ⟨ha, accB_len hl⟩
  have hbox := heap_alloc_new W' (.cells #[v, .int .u64 (b : Int), .int .u64 (s : Int)] 38)
  have ha0 : Below W'.heap.size W' (W'.alloc (.cells #[v, .int .u64 (b : Int), .int .u64 (s : Int)] 38)) := (Below.refl _ _).alloc (Nat.le_refl _) _
  have hr0 := hr.up (Nat.le_refl _) ha0
  have A0 := h.up ha0
  obtain ⟨A, c, rfl⟩ := hr.form
  obtain ⟨n, hnn⟩ : ∃ n, n = r.length := ⟨_, rfl⟩
  rw [← hnn] at hr0 hbox ha0 A0 ⊢
  have HNN := Lib.hid hnn
  clear hr h hnn
  generalize hW0 : W'.alloc (.cells #[.slice A n c, .int .u64 (b : Int), .int .u64 (s : Int)] 38) = W0 at *
  have hgl := blk_lt hbox
  have HC : Hid (∀ Z, Kept W0 Z → Z.cell? ⟨W'.heap.size, 0, none⟩ = some (.slice A n c) ∧ Z.cell? ⟨W'.heap.size, 1, none⟩ = some (.int .u64 (b : Int)) ∧ Z.cell? ⟨W'.heap.size, 2, none⟩ = some (.int .u64 (s : Int))) := Lib.hid fun Z hz =>
    ⟨hz.cell (blk_cell hbox 0), hz.cell (blk_cell hbox 1), hz.cell (blk_cell hbox 2)⟩
  have hkD := Kept.drew W0
  have HB := Lib.hid (B_any (.slice none 0 0) (.slice A n c) [] r W0.drew (Rd.nil _ _) (hkD.rd hr0) (by simp))
  have HN1 : Hid (∀ (v : Value) (Z : World) (B : Nat), Own Z B v ([] ++ be (r.take 65535).length 4 ++ r.take 65535) → Calls Tryz.prog 91 #[v, .int .u64 (b : Int)] Z fun e w' => ∃ v', e = .returned v' ∧ Own w' Z.heap.size v' (([] ++ be (r.take 65535).length 4 ++ r.take 65535) ++ be b 8) ∧ Below Z.heap.size Z w') :=
    Lib.hid fun v Z B ho => N_any v _ b Z ho.rd hb (by simp [be_length]; omega)
  have HN2 : Hid (∀ (v : Value) (Z : World) (B : Nat), Own Z B v (([] ++ be (r.take 65535).length 4 ++ r.take 65535) ++ be b 8) → Calls Tryz.prog 91 #[v, .int .u64 (s : Int)] Z fun e w' => ∃ v', e = .returned v' ∧ Own w' Z.heap.size v' ((([] ++ be (r.take 65535).length 4 ++ r.take 65535) ++ be b 8) ++ be s 8) ∧ Below Z.heap.size Z w') :=
    Lib.hid fun v Z B ho => N_any v _ s Z ho.rd hs (by simp [be_length]; omega)
  have HST : Hid (∀ (v : Value) (Z : World) (B : Nat), Below W0.drew.heap.size W0.drew Z → Own Z B v ((([] ++ be (r.take 65535).length 4 ++ r.take 65535) ++ be b 8) ++ be s 8) → Calls Tryz.prog 28 #[.pointer (some ⟨y.b, 0, none⟩), .string (kAcc a), v] Z fun e w' => e = .returned (.int .i64 0) ∧ Acc W y (putA R a r b s) (k + 1) w' ∧ Kept Z w') :=
    Lib.hid fun v Z B hz ho => ((A0.up (Below.drew (Below.refl _ _))).up hz).set hn (kAcc a) (by unfold maxLen; omega) v (accB r b s) (ho.rd' (by simp [accB, encB])) hpb
  have hkW : Kept W' W0 := Kept.of_below ha0
  generalize [] ++ be (r.take 65535).length 4 ++ r.take 65535 = l1 at *
  generalize l1 ++ be b 8 = l2 at *
  generalize l2 ++ be s 8 = l3 at *
  generalize putA R a r b s = R2 at *
  clear hpb A0 hr0 hbox hgl ha hl hb hs hk2 has
  go_enter Tryz.func37, Tryz.ntmps37
  go_wp2_with fail
  try rw [hW0]
  clear hW0 ha0
  go_region_held_law (fun Z => Z.cell? ⟨W'.heap.size, 0, none⟩ = some (.slice A n c) ∧ Z.cell? ⟨W'.heap.size, 1, none⟩ = some (.int .u64 (b : Int)) ∧ Z.cell? ⟨W'.heap.size, 2, none⟩ = some (.int .u64 (s : Int)))
    (with_reducible first | exact HC.out _ hkF | exact HC.out _ hkM | exact HC.out _ hkN | exact HC.out _ hkB | exact HC.out _ hkD)
    ((first
      | (go_at_call 38; refine (HK.out _).mono ?_; rintro e w9 ⟨rfl, rfl⟩)
      | (go_at_call 77; refine HB.out.mono ?_; rintro e wB ⟨vB, rfl, hoB, hqB⟩; have hkB := hkD.trans (Kept.of_below hqB))
      | (go_at_call 91; first
          | (refine (HN2.out _ _ _ hoN).mono ?_; rintro e wM ⟨vM, rfl, hoM, hbM⟩; have hqM := below_chain hqN hqN.size hbM; have hkM := hkD.trans (Kept.of_below hqM))
          | (refine (HN1.out _ _ _ hoB).mono ?_; rintro e wN ⟨vN, rfl, hoN, hbN⟩; have hqN := below_chain hqB hqB.size hbN; have hkN := hkD.trans (Kept.of_below hqN)))
      | (go_at_call 28; refine (HST.out _ _ _ hqM hoM).mono ?_; rintro e wS ⟨rfl, AS, hkS⟩; have hkF := hkM.trans hkS)))
  all_goals
    have hfin := hkW.trans hkF
    go_wp2_with fail
    go_end0
    exact ⟨rfl, AS, hfin⟩
end Go.Proofs.YtniclaapiabmdaaGreatDoor
namespace Go.Proofs.YtniclaapiabmdaaGreatDoor
set_option maxRecDepth 100000
open Go Go.RowKit
set_option linter.unusedVariables false

theorem set3 {w : World} {g : Nat} {x0 x1 x2 : Value} {t : TypeId} (h : w.heap[g]? = some (.cells #[x0, x1, x2] t (0, 0))) (y0 y1 y2 : Value) : (((w.setCell ⟨g, 0, none⟩ y0).setCell ⟨g, 1, none⟩ y1).setCell ⟨g, 2, none⟩ y2).heap[g]? = some (.cells #[y0, y1, y2] t (0, 0)) := by
  simpa using blk_set (blk_set (blk_set h 0 y0) 1 y1) 2 y2
theorem below_set3 {B : Nat} {w w' : World} {g : Nat} (h : Below B w w') (hg : B ≤ g) (x0 x1 x2 : Value) : Below B w (((w'.setCell ⟨g, 0, none⟩ x0).setCell ⟨g, 1, none⟩ x1).setCell ⟨g, 2, none⟩ x2) :=
  ((h.setCell hg _).setCell hg _).setCell hg _
theorem Own.set3 {w : World} {B g : Nat} {v : Value} {l : List UInt8} (h : Own w B v l) (hg : g < B) (x0 x1 x2 : Value) : Own (((w.setCell ⟨g, 0, none⟩ x0).setCell ⟨g, 1, none⟩ x1).setCell ⟨g, 2, none⟩ x2) B v l := by
  have hne : ∀ {w : World}, Own w B v l → v.ownBlock ≠ some g := fun h e => by have := h.lt _ e; omega
  have h1 := h.grown (grown_setR w g 0 x0) (Or.inr (hne h))
  have h2 := h1.grown (grown_setR _ g 1 x1) (Or.inr (hne h1))
  exact h2.grown (grown_setR _ g 2 x2) (Or.inr (hne h2))

set_option maxHeartbeats 4000000 in
theorem aget_any {W W' : World} {y : Lyr} {R : List Pr} {k : Nat} (h : Acc W y R k W') (a : ByteArray) (ha : a.size ≤ 100000000) :
    Calls Tryz.prog 11 #[.pointer (some ⟨y.b, 0, none⟩), .string a] W' fun e w' => ((∃ v r b s, getA R a = some (r, b, s) ∧ e = .returned (.tuple #[.agg #[v, .int .u64 ((b : Nat) : Int), .int .u64 ((s : Nat) : Int)], .bool true]) ∧ Own w' W'.heap.size v r) ∨ (getA R a = none ∧ e = .returned (.tuple #[.agg #[.slice none 0 0, .int .u64 0, .int .u64 0], .bool false]))) ∧ Below W'.heap.size W' w' := by
  have s1 := kAcc_size a
  have HK := Lib.hid (fun W => (accKey_any a W ha).mono fun e w' ⟨h1, h2⟩ => (⟨h1, h2.symm⟩ : _ ∧ w' = W))
  have HG := Lib.hid (fun (Z : World) (hz : Below W'.heap.size W' Z) => (h.up hz).get (kAcc a) (by unfold maxLen; omega))
  have HF := Lib.hid (fun v e => h.fits (key := kAcc a) (v := v) e)
  obtain ⟨o, ho⟩ : ∃ o, o = getL R (kAcc a) := ⟨_, rfl⟩
  have hga : getA R a = o.bind readA := by unfold getA; rw [← ho]
  rw [← ho] at HG HF
  rw [hga]
  clear hga ho h s1 ha
  have hk0 := heap_alloc_new W' (.cells #[.slice none 0 0, .int .u64 0, .int .u64 0] 38)
  have ha0 : Below W'.heap.size W' (W'.alloc (.cells #[.slice none 0 0, .int .u64 0, .int .u64 0] 38)) := (Below.refl _ _).alloc (Nat.le_refl _) _
  go_enter Tryz.func11, Tryz.ntmps11
  go_wp2_with fail
  generalize W'.alloc (.cells #[.slice none 0 0, .int .u64 0, .int .u64 0] 38) = W0 at *
  refine (HK.out _).mono ?_
  rintro e w1 ⟨rfl, rfl⟩
  have hl0 := blk_lt hk0
  go_wp2_with fail
  refine (HG.out _ ha0).mono ?_
  rintro e w2 ⟨v, rfl, hov, hb2⟩
  have hq2 := below_chain ha0 ha0.size hb2
  have hk2 := (hb2.block _ hl0).trans hk0
  clear HG HK
  cases o with
  | none =>
    have z0 := blk_cell hk2 0
    have z1 := blk_cell hk2 1
    have z2 := blk_cell hk2 2
    have f0 := blk_free hk2 0
    have f1 := blk_free hk2 1
    have f2 := blk_free hk2 2
    obtain ⟨A, c, rfl⟩ := hov.form
    have hk3 := set3 hk2 (.slice none 0 0) (.int .u64 0) (.int .u64 0)
    have HD := Lib.hid (And.intro (blk_cell hk3 0) (And.intro (blk_cell hk3 1) (blk_cell hk3 2)))
    clear hk3 hov
    go_wp2_with fail
    obtain ⟨d0, d1, d2⟩ := HD.out
    refine bodyPost_ret (v := .tuple #[.agg #[.slice none 0 0, .int .u64 0, .int .u64 0], .bool false]) ?_ rfl ⟨Or.inr ⟨rfl, rfl⟩, ?_⟩
    · simp at d0 d1 d2; simp [results, Tryz.results11, go_sem, d0, d1, d2]
    · exact below_set3 hq2 (Nat.le_refl _) _ _ _
  | some l =>
    have hll := (HF.out l rfl).2
    have HO := Lib.hid (open_rd v l w2 hov.rd (by omega))
    obtain ⟨A, c, rfl⟩ := hov.form
    have hra : readA l = if rEnd (rN (rN (rB l 0).2.1 (rB l 0).2.2).2.1 (rN (rB l 0).2.1 (rB l 0).2.2).2.2).2.1 (rN (rN (rB l 0).2.1 (rB l 0).2.2).2.1 (rN (rB l 0).2.1 (rB l 0).2.2).2.2).2.2 = 0 then
      some ((rB l 0).1, (rN (rB l 0).2.1 (rB l 0).2.2).1, (rN (rN (rB l 0).2.1 (rB l 0).2.2).2.1 (rN (rB l 0).2.1 (rB l 0).2.2).2.2).1) else none := rfl
    have HB := Lib.hid (fun (Z : World) (lo g : Nat) (h : Rdr Z lo g l 0) => rdB_any h)
    have HN1 := Lib.hid (fun (Z : World) (lo g : Nat) (h : Rdr Z lo g (rB l 0).2.1 (rB l 0).2.2) => rN_any h)
    have HN2 := Lib.hid (fun (Z : World) (lo g : Nat) (h : Rdr Z lo g (rN (rB l 0).2.1 (rB l 0).2.2).2.1 (rN (rB l 0).2.1 (rB l 0).2.2).2.2) => rN_any h)
    have HE := Lib.hid (fun (Z : World) (lo g : Nat) (h : Rdr Z lo g (rN (rN (rB l 0).2.1 (rB l 0).2.2).2.1 (rN (rB l 0).2.1 (rB l 0).2.2).2.2).2.1 (rN (rN (rB l 0).2.1 (rB l 0).2.2).2.1 (rN (rB l 0).2.1 (rB l 0).2.2).2.2).2.2) => rdEnd_any h)
    generalize rB l 0 = P1 at *
    generalize rN P1.2.1 P1.2.2 = P2 at *
    generalize rN P2.2.1 P2.2.2 = P3 at *
    generalize rEnd P3.2.1 P3.2.2 = E at *
    obtain ⟨r, l1, fl1⟩ := P1
    obtain ⟨b, l2, fl2⟩ := P2
    obtain ⟨s, l3, fl3⟩ := P3
    dsimp only at hra HB HN1 HN2 HE
    have HRA := Lib.hid hra
    clear hra HF hov hll
    go_wp2_with fail
    refine HO.out.mono ?_
    rintro e w3 ⟨g, rfl, hr3, hb3⟩
    have hq3 := below_chain hq2 hq2.size hb3
    have hg1 := hr3.from_
    have hg2 := hr3.lt
    have hl2 := blk_lt hk2
    have hk3 := (hb3.block _ hl2).trans hk2
    have hgn : (some W'.heap.size : Option Nat) ≠ some g := fun e => by injection e with e; omega
    have HD3 := Lib.hid (HB.out _ _ _ hr3)
    clear HO HB
    go_wp2_with fail
    refine HD3.out.mono ?_
    rintro e w4 ⟨vB, rfl, hoB, hr4, hg4⟩
    have hq4 := hq3.grown hg4 hq3.size (fun k hk => by injection hk with hk; have := hq2.size; omega)
    have hk4 := (hg4.block _ (blk_lt hk3) hgn).trans hk3
    have hBg : vB.ownBlock ≠ some g := fun e => by have := (hoB.lt _ e).1; omega
    have HD4 := Lib.hid (HN1.out _ _ _ hr4)
    clear HD3 HN1 hr3
    go_wp2_with fail
    refine HD4.out.mono ?_
    rintro e w5 ⟨rfl, hr5, hg5⟩
    have hq5 := hq4.grown hg5 hq4.size (fun k hk => by injection hk with hk; have := hq2.size; omega)
    have hk5 := (hg5.block _ (blk_lt hk4) hgn).trans hk4
    have ho5 := hoB.grown hg5 (Or.inr hBg)
    have HD5 := Lib.hid (HN2.out _ _ _ hr5)
    clear HD4 HN2 hr4
    go_wp2_with fail
    refine HD5.out.mono ?_
    rintro e w6 ⟨rfl, hr6, hg6⟩
    have hq6 := hq5.grown hg6 hq5.size (fun k hk => by injection hk with hk; have := hq2.size; omega)
    have hk6 := (hg6.block _ (blk_lt hk5) hgn).trans hk5
    have ho6 := ho5.grown hg6 (Or.inr hBg)
    have HD6 := Lib.hid (HE.out _ _ _ hr6)
    obtain ⟨AB, cB, rfl⟩ := ho6.form
    have hW3 : W'.heap.size < w3.heap.size := blk_lt hk3
    clear HD5 HE hr5 hr6 hg4 hg5 hg6 hoB ho5 hk2 hk3 hk4 hk5 hBg
    go_wp2_with fail
    refine HD6.out.mono ?_
    rintro e w7 ⟨rfl, rfl⟩
    clear HD6
    have z0 := blk_cell hk6 0
    have z1 := blk_cell hk6 1
    have z2 := blk_cell hk6 2
    have f0 := blk_free hk6 0
    have f1 := blk_free hk6 1
    have f2 := blk_free hk6 2
    by_cases e0 : E = 0
    · have hres := HRA.out
      rw [if_pos e0] at hres
      subst e0
      have HRS := Lib.hid hres
      have hk7 := set3 hk6 (.slice AB r.length cB) (.int .u64 (b : Int)) (.int .u64 (s : Int))
      have HD := Lib.hid (And.intro (blk_cell hk7 0) (And.intro (blk_cell hk7 1) (blk_cell hk7 2)))
      clear hk7 hres HRA
      go_wp2_with fail
      obtain ⟨d0, d1, d2⟩ := HD.out
      refine bodyPost_ret (v := .tuple #[.agg #[.slice AB r.length cB, .int .u64 (b : Int), .int .u64 (s : Int)], .bool true]) ?_ rfl ⟨Or.inl ⟨_, r, b, s, ?_, rfl, ?_⟩, ?_⟩
      · simp at d0 d1 d2; simp [results, Tryz.results11, go_sem, d0, d1, d2]
      · simp [HRS.out]
      · exact (ho6.set3 hW3 _ _ _).more (by omega)
      · exact below_set3 hq6 (Nat.le_refl _) _ _ _
    · have hres := HRA.out
      rw [if_neg e0] at hres
      have HRS := Lib.hid hres
      have hne : (E != 0) = true := by simpa using e0
      have hk7 := set3 hk6 (.slice none 0 0) (.int .u64 0) (.int .u64 0)
      have HD := Lib.hid (And.intro (blk_cell hk7 0) (And.intro (blk_cell hk7 1) (blk_cell hk7 2)))
      clear hk7 hres HRA e0
      go_wp2_with fail
      obtain ⟨d0, d1, d2⟩ := HD.out
      refine bodyPost_ret (v := .tuple #[.agg #[.slice none 0 0, .int .u64 0, .int .u64 0], .bool false]) ?_ rfl ⟨Or.inr ⟨by simp [HRS.out], rfl⟩, ?_⟩
      · simp at d0 d1 d2; simp [results, Tryz.results11, go_sem, d0, d1, d2]
      · exact below_set3 hq6 (Nat.le_refl _) _ _ _
end Go.Proofs.YtniclaapiabmdaaGreatDoor
namespace Go.Proofs.YtniclaapiabmdaaGreatDoor
set_option maxRecDepth 100000
open Go Go.RowKit
set_option linter.unusedVariables false

theorem Acc.more {W W' : World} {y : Lyr} {R : List Pr} {k k' : Nat} (h : Acc W y R k W') (hk : k ≤ k') : Acc W y R k' W' := ⟨h.b.up (Below.refl _ _) hk, h.p⟩
set_option maxHeartbeats 4000000 in
theorem acreate_any {W W' : World} {y : Lyr} {R : List Pr} {k : Nat} (h : Acc W y R k W') (hn : y.n + k < maxLen) (a : ByteArray) (ha : a.size ≤ 100000000) (v : Value) (r : List UInt8) (hr : Rd W' W'.heap.size v r) :
    Calls Tryz.prog 19 #[.pointer (some ⟨y.b, 0, none⟩), .string a, v] W' fun e w' => e = .returned (.int .i64 (createM R a r).1) ∧ Acc W y (createM R a r).2 (k + 1) w' ∧ Kept W' w' := by
  have s1 := kAcc_size a
  have HI : Hid (∀ Z, Calls Tryz.prog 43 #[.string a] Z fun e w' => e = .returned (.bool (identB a)) ∧ Z = w') := Lib.hid (fun Z => ident_any a Z (by unfold maxLen; omega))
  have HK := Lib.hid (fun W => (accKey_any a W ha).mono fun e w' ⟨h1, h2⟩ => (⟨h1, h2.symm⟩ : _ ∧ w' = W))
  have HG := Lib.hid (h.get (kAcc a) (by unfold maxLen; omega))
  have HA : Hid (∀ Z, Below W'.heap.size W' Z → Acc W y R (k + 1) Z) := Lib.hid fun Z hz => (h.up hz).more (by omega)
  have HP : Hid (∀ Z, Below W'.heap.size W' Z → identB a = true → r.length = 32 → Calls Tryz.prog 37 #[.pointer (some ⟨y.b, 0, none⟩), .string a, .agg #[v, .int .u64 0, .int .u64 0]] Z fun e w' => e = .returned (.tuple #[]) ∧ Acc W y (putA R a r 0 0) (k + 1) w' ∧ Kept Z w') :=
    Lib.hid fun Z hz h1 h2 => aput_any (h.up hz) hn a (kAcc_fits h1) v r (hr.up (Nat.le_refl _) hz) (by omega) 0 0 (by omega) (by omega)
  have HQ : Hid ((identB a = false → createM R a r = (40, R)) ∧ (identB a = true → r.length ≠ 32 → createM R a r = (31, R)) ∧ (identB a = true → r.length = 32 → (getL R (kAcc a)).isSome = true → createM R a r = (111, R)) ∧ (identB a = true → r.length = 32 → (getL R (kAcc a)).isSome = false → createM R a r = (0, putA R a r 0 0))) := Lib.hid (by
    unfold createM
    refine ⟨fun h1 => by simp [h1], fun h1 h2 => by simp [h1, h2], fun h1 h2 h3 => by simp [h1, h2, h3], fun h1 h2 h3 => by simp [h1, h2, h3]⟩)
  obtain ⟨A, c, rfl⟩ := hr.form
  clear h hr s1 ha hn
  generalize createM R a r = q at *
  generalize identB a = ib at *
  generalize (getL R (kAcc a)).isSome = os at *
  generalize r.length = n at *
  go_enter Tryz.func19, Tryz.ntmps19
  go_wp2_with fail
  refine (HI.out _).mono ?_
  rintro e w1 ⟨rfl, rfl⟩
  cases ib
  · have hz := HA.out _ (Below.refl _ _)
    go_wp2_with fail
    go_ret
    rw [HQ.out.1 (by trivial)]
    exact ⟨rfl, hz, Kept.refl _⟩
  · by_cases hn : n = 32
    · have HP2 := Lib.hid (fun Z hz => HP.out Z hz rfl hn)
      have HQ2 := Lib.hid (And.intro (HQ.out.2.2.1 rfl hn) (HQ.out.2.2.2 rfl hn))
      subst hn
      clear HP HQ
      go_wp2_with fail
      refine (HK.out _).mono ?_
      rintro e w2 ⟨rfl, rfl⟩
      go_wp2_with fail
      refine HG.out.mono ?_
      rintro e w3 ⟨v3, rfl, ho3, hb3⟩
      obtain ⟨A3, c3, rfl⟩ := ho3.form
      clear ho3
      cases os
      · have HP3 := Lib.hid (HP2.out _ hb3)
        go_wp2_with fail
        refine HP3.out.mono ?_
        rintro e w4 ⟨rfl, A4, hk4⟩
        go_wp2_with fail
        go_ret
        rw [HQ2.out.2 (by trivial)]
        exact ⟨rfl, A4, (Kept.of_below hb3).trans hk4⟩
      · have hz := HA.out _ hb3
        go_wp2_with fail
        go_ret
        rw [HQ2.out.1 (by trivial)]
        exact ⟨rfl, hz, Kept.of_below hb3⟩
    · have hz := HA.out _ (Below.refl _ _)
      have hne : ((n : Int) != 32) = true := by simp; omega
      have HQ2 := Lib.hid (HQ.out.2.1 rfl hn)
      go_wp2_with fail
      go_ret
      rw [HQ2.out]
      exact ⟨rfl, hz, Kept.refl _⟩
end Go.Proofs.YtniclaapiabmdaaGreatDoor
namespace Go.Proofs.YtniclaapiabmdaaGreatDoor
set_option maxRecDepth 100000
open Go Go.RowKit
set_option linter.unusedVariables false

theorem getA_ok {R : List Pr} {a : ByteArray} {r : List UInt8} {b s : Nat} (h : getA R a = some (r, b, s)) : ∃ l, getL R (kAcc a) = some l ∧ r.length ≤ 65535 ∧ b < 18446744073709551616 ∧ s < 18446744073709551616 := by
  unfold getA at h
  cases e : getL R (kAcc a) with
  | none => rw [e] at h; cases h
  | some l =>
    rw [e] at h
    obtain ⟨h1, h2, h3⟩ := readA_ok (show readA l = some (r, b, s) from h)
    exact ⟨l, rfl, h1, h2, h3⟩
end Go.Proofs.YtniclaapiabmdaaGreatDoor
namespace Go.Proofs.YtniclaapiabmdaaGreatDoor
set_option maxRecDepth 100000
open Go Go.RowKit
set_option linter.unusedVariables false

def EarlyA (R : List Pr) (sg : ByteArray) (q : Nat) (z : Int) : Prop := (getA R sg = none ∧ z = 80) ∨ ((∃ r b s, getA R sg = some (r, b, s) ∧ q ≠ s) ∧ z = 81)
set_option maxHeartbeats 4000000 in
theorem acheck_early {W W' : World} {y : Lyr} {R : List Pr} {k : Nat} (h : Acc W y R k W') (ch sg : ByteArray) (hs : sg.size ≤ 100000000) (q : Nat) (z : Int) (hz : EarlyA R sg q z) :
    Calls Tryz.prog 9 #[.pointer (some ⟨y.b, 0, none⟩), .string ch, .agg #[.string sg, .int .u64 (q : Int), .int .u64 0, .int .u64 0, .int .u64 0, .int .u64 0, .int .u64 0, .slice none 0 0, .slice none 0 0]] W' fun e w' => e = .returned (.int .i64 z) ∧ Below W'.heap.size W' w' := by
  have HG := Lib.hid (fun (Z : World) (hb : Below W'.heap.size W' Z) => aget_any (h.up hb) sg hs)
  have HZ := Lib.hid hz
  have hbox := heap_alloc_new W' (.cells #[.string sg, .int .u64 (q : Int), .int .u64 0, .int .u64 0, .int .u64 0, .int .u64 0, .int .u64 0, .slice none 0 0, .slice none 0 0] 29)
  have ha0 : Below W'.heap.size W' (W'.alloc (.cells #[.string sg, .int .u64 (q : Int), .int .u64 0, .int .u64 0, .int .u64 0, .int .u64 0, .int .u64 0, .slice none 0 0, .slice none 0 0] 29)) := (Below.refl _ _).alloc (Nat.le_refl _) _
  clear h hs hz
  go_enter Tryz.func9, Tryz.ntmps9
  go_wp2_with fail
  generalize W'.alloc (.cells #[.string sg, .int .u64 (q : Int), .int .u64 0, .int .u64 0, .int .u64 0, .int .u64 0, .int .u64 0, .slice none 0 0, .slice none 0 0] 29) = W0 at *
  have HC : Hid (∀ Z, Below W0.heap.size W0 Z → Z.cell? ⟨W'.heap.size, 1, none⟩ = some (.int .u64 (q : Int))) := Lib.hid fun Z hb => blk_cell ((hb.block _ (blk_lt hbox)).trans hbox) 1
  refine (HG.out _ ha0).mono ?_
  rintro e w1 ⟨⟨v1, r1, b1, s1, hga, rfl, ho1⟩ | ⟨hga, rfl⟩, hb1⟩
  · have hne : ((q : Int) != (s1 : Int)) = true ∧ z = 81 := by
      rcases HZ.out with ⟨e1, -⟩ | ⟨⟨r, b, s, e1, e2⟩, e3⟩
      · rw [hga] at e1; cases e1
      · rw [hga] at e1
        injection e1 with e1
        injection e1 with _ e1
        injection e1 with _ e1
        subst e1
        exact ⟨by simp; omega, e3⟩
    obtain ⟨hne, rfl⟩ := hne
    obtain ⟨A1, c1, rfl⟩ := ho1.form
    generalize r1.length = n1 at *
    have hk1 := heap_alloc_new w1 (.cells #[.slice A1 n1 c1, .int .u64 (b1 : Int), .int .u64 (s1 : Int)] 38)
    have hb2 := hb1.alloc hb1.size (.cells #[.slice A1 n1 c1, .int .u64 (b1 : Int), .int .u64 (s1 : Int)] 38)
    have z0 := blk_cell hk1 0
    have z1 := blk_cell hk1 1
    have z2 := blk_cell hk1 2
    simp at z0 z1 z2
    have c1 := HC.out _ hb2
    have hq2 := below_chain ha0 ha0.size hb2
    clear ho1 hga hk1 HG HZ
    go_wp2_with fail
    go_ret
    exact ⟨rfl, hq2⟩
  · have hz : z = 80 := by
      rcases HZ.out with ⟨-, e1⟩ | ⟨⟨r, b, s, e1, e2⟩, e3⟩
      · exact e1
      · rw [hga] at e1; cases e1
    subst hz
    have hq2 := below_chain ha0 ha0.size (hb1.alloc hb1.size (.cells #[.slice none 0 0, .int .u64 0, .int .u64 0] 38))
    clear hga HG HZ
    go_wp2_with fail
    go_ret
    exact ⟨rfl, hq2⟩
set_option maxHeartbeats 4000000 in
theorem aante_early {W W' : World} {y : Lyr} {R : List Pr} {k : Nat} (h : Acc W y R k W') (ch sg : ByteArray) (hs : sg.size ≤ 100000000) (q : Nat) (z : Int) (hz : EarlyA R sg q z) :
    Calls Tryz.prog 10 #[.pointer (some ⟨y.b, 0, none⟩), .string ch, .agg #[.string sg, .int .u64 (q : Int), .int .u64 0, .int .u64 0, .int .u64 0, .int .u64 0, .int .u64 0, .slice none 0 0, .slice none 0 0]] W' fun e w' => e = .returned (.int .i64 z) ∧ Below W'.heap.size W' w' := by
  have HG := Lib.hid (fun (Z : World) (hb : Below W'.heap.size W' Z) => acheck_early (h.up hb) ch sg hs q z hz)
  have hne : (z != 0) = true := by rcases hz with ⟨-, rfl⟩ | ⟨-, rfl⟩ <;> rfl
  have hbox := heap_alloc_new W' (.cells #[.string sg, .int .u64 (q : Int), .int .u64 0, .int .u64 0, .int .u64 0, .int .u64 0, .int .u64 0, .slice none 0 0, .slice none 0 0] 29)
  have ha0 : Below W'.heap.size W' (W'.alloc (.cells #[.string sg, .int .u64 (q : Int), .int .u64 0, .int .u64 0, .int .u64 0, .int .u64 0, .int .u64 0, .slice none 0 0, .slice none 0 0] 29)) := (Below.refl _ _).alloc (Nat.le_refl _) _
  clear h hs hz
  go_enter Tryz.func10, Tryz.ntmps10
  go_wp2_with fail
  refine (HG.out _ ha0).mono ?_
  rintro e w1 ⟨rfl, hb1⟩
  have hq1 := below_chain ha0 ha0.size hb1
  clear HG
  go_wp2_with fail
  go_ret
  exact ⟨rfl, hq1⟩
end Go.Proofs.YtniclaapiabmdaaGreatDoor
namespace Go.Proofs.YtniclaapiabmdaaGreatDoor
set_option maxRecDepth 100000
open Go Go.RowKit
set_option linter.unusedVariables false

theorem TxV.rd.keptM {w w' : World} {t : TxV} (h : t.rd w) (hk : Kept w w') : t.rd w' := by
  have hs := hk.sizeM
  refine ⟨h.sg, h.seq, h.gas, h.fee, ?_, fun m hm => (h.msr m hm).keptM hk, hk.rd h.sig, h.ml⟩
  obtain ⟨A, c, e, hp⟩ := h.ms
  refine ⟨A, c, e, fun h0 => ?_⟩
  obtain ⟨b, o, h1, h2, h3⟩ := hp h0
  exact ⟨b, o, h1, Nat.lt_of_lt_of_le h2 hs, fun j hj i u hu => hk.cell (p := ⟨b, o + j * 62 + i, none⟩) (h3 j hj i u hu)⟩
/-- the error of a transaction as its signer's next one -/
def checkM (R : List Pr) (ch : ByteArray) (t : TxV) : Int :=
  match getA R t.sg with
  | none => 80
  | some (r, b, s) =>
    if t.seq = s then
      if b ≤ s ∧ s - b < 8 then
        if encE t.bare = 0 then (if verB r ((s - b : Nat) : Int) (shaSum (encSgn ch t)) t.sig = true then 0 else 31)
        else encE t.bare
      else 30
    else 81
theorem encSgn_len (ch : ByteArray) (t : TxV) : (encSgn ch t).length ≤ 140000 := by
  unfold encSgn
  have h1 := encW_len ch
  have h2 : (encB (encTx t.bare)).length ≤ 65539 := by simp only [encB, List.length_append, be_length, List.length_take]; omega
  rw [List.length_append]
  omega
set_option maxHeartbeats 8000000 in
theorem acheck_any {W W' : World} {y : Lyr} {R : List Pr} {k : Nat} (h : Acc W y R k W') (ch : ByteArray) (hch : ch.size ≤ maxLen) (t : TxV) (ht : t.rd W') (hs : t.sg.size ≤ 100000000) (fr : TypeId × Nat × Nat) (hk : W'.heap[0]? = some (.cells kVals fr.1 fr.2)) :
    Calls Tryz.prog 9 #[.pointer (some ⟨y.b, 0, none⟩), .string ch, .agg t.cells] W' fun e w' => e = .returned (.int .i64 (checkM R ch t)) ∧ Below W'.heap.size W' w' := by
  obtain ⟨Am, cm, hvm⟩ : ∃ A c, t.vms = .slice A t.ms.length c := by obtain ⟨A, c, e, _⟩ := ht.ms; exact ⟨A, c, e⟩
  obtain ⟨As, cs, hvs⟩ := ht.sig.form
  have hcl : t.cells = #[.string t.sg, .int .u64 (t.seq : Int), .int .u64 (t.gas : Int), .int .u64 (t.fee.a : Int), .int .u64 (t.fee.b : Int), .int .u64 (t.fee.c : Int), .int .u64 (t.fee.d : Int), .slice Am t.ms.length cm, .slice As t.sig.length cs] := by rw [TxV.cells, hvm, hvs]
  have HG := Lib.hid (fun (Z : World) (hb : Below W'.heap.size W' Z) => aget_any (h.up hb) t.sg hs)
  have HSB := Lib.hid (fun (Z : World) (hb : Below W'.heap.size W' Z) => sb_any Z ch hch t (ht.up hb))
  rw [hcl] at HSB
  have HSG := Lib.hid (fun (Z : World) (hb : Below W'.heap.size W' Z) => ht.sig.up (Nat.le_refl _) hb)
  rw [hvs] at HSG
  have HTB := Lib.hid (fun (Z : World) (hb : Below W'.heap.size W' Z) => (hb.block _ (blk_lt hk)).trans hk)
  have HLN := Lib.hid (encSgn_len ch t)
  have hq := ht.seq
  have hm0 : getA R t.sg = none → checkM R ch t = 80 := fun e => by unfold checkM; rw [e]
  have hm1 : ∀ r b s, getA R t.sg = some (r, b, s) → t.seq ≠ s → checkM R ch t = 81 := fun r b s e q => by unfold checkM; simp only [e]; rw [if_neg q]
  have hm2 : ∀ r b s, getA R t.sg = some (r, b, s) → t.seq = s → ¬ (b ≤ s ∧ s - b < 8) → checkM R ch t = 30 := fun r b s e q q2 => by unfold checkM; simp only [e]; rw [if_pos q, if_neg q2]
  have hm3 : ∀ r b s, getA R t.sg = some (r, b, s) → t.seq = s → (b ≤ s ∧ s - b < 8) → encE t.bare ≠ 0 → checkM R ch t = encE t.bare := fun r b s e q q2 q3 => by unfold checkM; simp only [e]; rw [if_pos q, if_pos q2, if_neg q3]
  have hm4 : ∀ r b s, getA R t.sg = some (r, b, s) → t.seq = s → (b ≤ s ∧ s - b < 8) → encE t.bare = 0 → checkM R ch t = if verB r ((s - b : Nat) : Int) (shaSum (encSgn ch t)) t.sig = true then 0 else 31 := fun r b s e q q2 q3 => by unfold checkM; simp only [e]; rw [if_pos q, if_pos q2, if_pos q3]
  have HM := Lib.hid (And.intro hm0 (And.intro hm1 (And.intro hm2 (And.intro hm3 hm4))))
  have HOK := Lib.hid (fun r b s (e : getA R t.sg = some (r, b, s)) => getA_ok e)
  rw [hcl]
  clear hm0 hm1 hm2 hm3 hm4 h hcl hvm hvs hk hs hch ht
  generalize encE t.bare = E at *
  generalize checkM R ch t = Q at *
  generalize encSgn ch t = SG at *
  generalize getA R t.sg = GA at *
  generalize t.sig = sig at *
  generalize t.ms.length = nm at *
  generalize t.fee.a = fa at *
  generalize t.fee.b = fb at *
  generalize t.fee.c = fc at *
  generalize t.fee.d = fd at *
  generalize t.gas = gas at *
  generalize t.seq = q at *
  generalize t.sg = sg at *
  have HSL : Hid (∃ sl, sl = sig.length) := Lib.hid ⟨_, rfl⟩
  obtain ⟨sl, hsl⟩ := HSL.out
  rw [← hsl] at HSB HSG ⊢
  clear HSL
  have hbox := heap_alloc_new W' (.cells #[.string sg, .int .u64 (q : Int), .int .u64 (gas : Int), .int .u64 (fa : Int), .int .u64 (fb : Int), .int .u64 (fc : Int), .int .u64 (fd : Int), .slice Am nm cm, .slice As sl cs] 29)
  have ha0 : Below W'.heap.size W' (W'.alloc (.cells #[.string sg, .int .u64 (q : Int), .int .u64 (gas : Int), .int .u64 (fa : Int), .int .u64 (fb : Int), .int .u64 (fc : Int), .int .u64 (fd : Int), .slice Am nm cm, .slice As sl cs] 29)) := (Below.refl _ _).alloc (Nat.le_refl _) _
  clear hsl
  go_enter Tryz.func9, Tryz.ntmps9
  go_wp2_with fail
  generalize W'.alloc (.cells #[.string sg, .int .u64 (q : Int), .int .u64 (gas : Int), .int .u64 (fa : Int), .int .u64 (fb : Int), .int .u64 (fc : Int), .int .u64 (fd : Int), .slice Am nm cm, .slice As sl cs] 29) = W0 at *
  have HC : Hid (∀ Z, Below W0.heap.size W0 Z → Z.cell? ⟨W'.heap.size, 0, none⟩ = some (.string sg) ∧ Z.cell? ⟨W'.heap.size, 1, none⟩ = some (.int .u64 (q : Int)) ∧ Z.cell? ⟨W'.heap.size, 2, none⟩ = some (.int .u64 (gas : Int)) ∧ Z.cell? ⟨W'.heap.size, 3, none⟩ = some (.int .u64 (fa : Int)) ∧ Z.cell? ⟨W'.heap.size, 4, none⟩ = some (.int .u64 (fb : Int)) ∧ Z.cell? ⟨W'.heap.size, 5, none⟩ = some (.int .u64 (fc : Int)) ∧ Z.cell? ⟨W'.heap.size, 6, none⟩ = some (.int .u64 (fd : Int)) ∧ Z.cell? ⟨W'.heap.size, 7, none⟩ = some (.slice Am nm cm) ∧ Z.cell? ⟨W'.heap.size, 8, none⟩ = some (.slice As sl cs)) := Lib.hid fun Z hb => by
    have hz := (hb.block _ (blk_lt hbox)).trans hbox
    exact ⟨blk_cell hz 0, blk_cell hz 1, blk_cell hz 2, blk_cell hz 3, blk_cell hz 4, blk_cell hz 5, blk_cell hz 6, blk_cell hz 7, blk_cell hz 8⟩
  refine (HG.out _ ha0).mono ?_
  rintro e w1 ⟨⟨v1, r1, b1, s1, hga, rfl, ho1⟩ | ⟨hga, rfl⟩, hb1⟩
  · obtain ⟨l1, _, g2, g3, g4⟩ := HOK.out _ _ _ hga
    have HO1 := Lib.hid ho1
    have HGA := Lib.hid hga
    obtain ⟨A1, c1, hv1⟩ := ho1.form
    subst hv1
    obtain ⟨n1, hn1⟩ : ∃ n, n = r1.length := ⟨_, rfl⟩
    rw [← hn1] at HO1 ⊢
    clear hn1
    have hk1 := heap_alloc_new w1 (.cells #[.slice A1 n1 c1, .int .u64 (b1 : Int), .int .u64 (s1 : Int)] 38)
    have hb2 := hb1.alloc hb1.size (.cells #[.slice A1 n1 c1, .int .u64 (b1 : Int), .int .u64 (s1 : Int)] 38)
    have hal : Below w1.heap.size w1 (w1.alloc (.cells #[.slice A1 n1 c1, .int .u64 (b1 : Int), .int .u64 (s1 : Int)] 38)) := (Below.refl _ _).alloc (Nat.le_refl _) _
    have HA : Hid (∀ Z, Below (w1.alloc (.cells #[.slice A1 n1 c1, .int .u64 (b1 : Int), .int .u64 (s1 : Int)] 38)).heap.size (w1.alloc (.cells #[.slice A1 n1 c1, .int .u64 (b1 : Int), .int .u64 (s1 : Int)] 38)) Z → Z.cell? ⟨w1.heap.size, 0, none⟩ = some (.slice A1 n1 c1) ∧ Z.cell? ⟨w1.heap.size, 1, none⟩ = some (.int .u64 (b1 : Int)) ∧ Z.cell? ⟨w1.heap.size, 2, none⟩ = some (.int .u64 (s1 : Int)) ∧ Rd Z Z.heap.size (.slice A1 n1 c1) r1) := Lib.hid fun Z hz => by
      have hz1 := (hz.block _ (blk_lt hk1)).trans hk1
      exact ⟨blk_cell hz1 0, blk_cell hz1 1, blk_cell hz1 2, HO1.out.rd.up (Nat.le_refl _) (below_chain hal hal.size hz)⟩
    have hq2 := below_chain ha0 ha0.size hb2
    have z0 := blk_cell hk1 0
    have z1 := blk_cell hk1 1
    have z2 := blk_cell hk1 2
    simp at z0 z1 z2
    obtain ⟨c0, c1', c2, c3, c4, c5, c6, c7, c8⟩ := HC.out _ hb2
    have HC2 : Hid (∀ Z, Below (w1.alloc (.cells #[.slice A1 n1 c1, .int .u64 (b1 : Int), .int .u64 (s1 : Int)] 38)).heap.size (w1.alloc (.cells #[.slice A1 n1 c1, .int .u64 (b1 : Int), .int .u64 (s1 : Int)] 38)) Z → Z.cell? ⟨W'.heap.size, 8, none⟩ = some (.slice As sl cs)) := Lib.hid fun Z hz => (HC.out _ (below_chain hb2 hb2.size hz)).2.2.2.2.2.2.2.2
    by_cases hqs : q = s1
    · subst hqs
      by_cases hlt : q < b1
      · have h30 := HM.out.2.2.1 _ _ _ HGA.out rfl (by omega)
        have f1 : (q : Int) < (b1 : Int) := by omega
        subst h30
        clear HM HGA HO1 HA HC HG HSB HSG HTB hga ho1 hk1 hal
        go_wp2_with fail
        go_ret
        exact ⟨rfl, hq2⟩
      · have f1 : ¬ (q : Int) < (b1 : Int) := by omega
        have f2 : IntKind.u64.wrap ((q : Int) - (b1 : Int)) = ((q - b1 : Nat) : Int) := by rw [IntKind.wrap_u64]; omega
        by_cases h8 : q - b1 < 8
        · have f3 : ((q - b1 : Nat) : Int) < 8 := by omega
          have f4 : IntKind.i64.wrap ((q - b1 : Nat) : Int) = ((q - b1 : Nat) : Int) := by rw [IntKind.wrap_i64]; omega
          have HMM := Lib.hid (And.intro (HM.out.2.2.2.1 _ _ _ HGA.out rfl (by omega)) (HM.out.2.2.2.2 _ _ _ HGA.out rfl (by omega)))
          have HSB2 := Lib.hid (HSB.out _ hq2)
          have HHB := Lib.hid hb2
          have HHQ := Lib.hid hq2
          clear HM HGA HO1 hga ho1 hk1 hal HSB HC HG
          generalize q - b1 = d at *
          clear hb2 hq2
          go_wp2_with fail
          generalize w1.alloc (.cells #[.slice A1 n1 c1, .int .u64 (b1 : Int), .int .u64 (q : Int)] 38) = W1 at *
          refine HSB2.out.mono ?_
          rintro e w2 ⟨v2, rfl, hb3, ho2, hn2⟩
          have hq3 := below_chain HHQ.out HHQ.out.size hb3
          by_cases hE : E = 0
          · have HRES := Lib.hid (HMM.out.2 hE)
            have ho2' := ho2 hE
            obtain ⟨A2, c2', hv2⟩ := ho2'.form
            subst hv2
            have HB3 := Lib.hid (And.intro hb3 hq3)
            subst hE
            clear ho2 hn2 HSB2 HMM
            obtain ⟨vb, hvb⟩ : ∃ vb, vb = verB r1 (d : Int) (shaSum SG) sig := ⟨_, rfl⟩
            rw [← hvb] at HRES
            have HVR : Hid (∀ Z v, Below w2.heap.size w2 Z → Rd Z Z.heap.size v (shaSum SG) → Calls Tryz.prog 33 #[.slice A1 n1 c1, .int .i64 (d : Int), v, .slice As sl cs] Z fun e w' => e = .returned (.bool vb) ∧ Below Z.heap.size Z w') := Lib.hid fun Z v hz hr => by
              rw [hvb]
              have hz3 := below_chain HB3.out.1 HB3.out.1.size hz
              have hq4 := below_chain HB3.out.2 HB3.out.2.size hz
              exact gverify_any _ v _ r1 (shaSum SG) sig d Z (HA.out _ hz3).2.2.2 hr (HSG.out _ hq4) fr (HTB.out _ hq4)
            have HCC : Hid (∀ Z, Below w2.heap.size w2 Z → Z.cell? ⟨w1.heap.size, 0, none⟩ = some (.slice A1 n1 c1) ∧ Z.cell? ⟨w1.heap.size, 1, none⟩ = some (.int .u64 (b1 : Int)) ∧ Z.cell? ⟨w1.heap.size, 2, none⟩ = some (.int .u64 (q : Int)) ∧ Z.cell? ⟨W'.heap.size, 8, none⟩ = some (.slice As sl cs)) := Lib.hid fun Z hz => by
              have hz3 := below_chain HB3.out.1 HB3.out.1.size hz
              obtain ⟨y1, y2, y3, -⟩ := HA.out _ hz3
              exact ⟨y1, y2, y3, HC2.out _ hz3⟩
            have hkD : Below w2.heap.size w2 w2.drew := (Below.refl _ _).drew
            have HSU2 := Lib.hid (sum_any _ SG w2.drew (ho2'.rd.up (Nat.le_refl _) hkD) (by have := HLN.out; omega) fr (HTB.out _ (below_chain hq3 hq3.size hkD)))
            clear ho2' hvb
            generalize SG.length = n2 at *
            go_wp2_with fail
            go_region_held_law (fun Z => Z.cell? ⟨w1.heap.size, 0, none⟩ = some (.slice A1 n1 c1) ∧ Z.cell? ⟨w1.heap.size, 1, none⟩ = some (.int .u64 (b1 : Int)) ∧ Z.cell? ⟨w1.heap.size, 2, none⟩ = some (.int .u64 (q : Int)) ∧ Z.cell? ⟨W'.heap.size, 8, none⟩ = some (.slice As sl cs))
              (with_reducible first | exact HCC.out _ hkV | exact HCC.out _ hkS | exact HCC.out _ hkD)
              ((first
                | (go_at_call 34; refine HSU2.out.mono ?_; rintro e wS ⟨vS, rfl, hoS, hbS⟩; have hkS := below_chain hkD hkD.size hbS)
                | (go_at_call 33; refine (HVR.out _ _ hkS hoS.rd).mono ?_; rintro e wV ⟨rfl, hbV⟩; have hkV := below_chain hkS hkS.size hbV)))
            all_goals
              have hfin := below_chain HB3.out.2 HB3.out.2.size hkV
              have hres := HRES.out
              clear HRES
              cases vb
              · obtain rfl : Q = 31 := hres
                go_wp2_with fail
                go_ret
                exact ⟨rfl, hfin⟩
              · obtain rfl : Q = 0 := hres
                go_wp2_with fail
                go_ret
                exact ⟨rfl, hfin⟩
          · have HRES := Lib.hid (HMM.out.1 hE)
            have f5 : (E != 0) = true := by simpa using hE
            obtain hv2 := hn2 hE
            subst hv2
            clear ho2 hn2 HSB2 HMM
            go_wp2_with fail
            go_ret
            obtain rfl : Q = E := HRES.out
            exact ⟨rfl, hq3⟩
        · have h30 := HM.out.2.2.1 _ _ _ HGA.out rfl (by omega)
          have f3 : ¬ ((q - b1 : Nat) : Int) < 8 := by omega
          have f3' : (8 : Int) ≤ ((q - b1 : Nat) : Int) := by omega
          subst h30
          clear HM HGA HO1 HA HC HG HSB HSG HTB hga ho1 hk1 hal
          generalize q - b1 = d at *
          go_wp2_with fail
          go_ret
          exact ⟨rfl, hq2⟩
    · have h81 := HM.out.2.1 _ _ _ HGA.out hqs
      have f1 : ((q : Int) != (s1 : Int)) = true := by simp; omega
      subst h81
      clear HM HGA HO1 HA HC HG HSB HSG HTB hga ho1 hk1 hal
      go_wp2_with fail
      go_ret
      exact ⟨rfl, hq2⟩
  · have hz := HM.out.1 hga
    subst hz
    have hq2 := below_chain ha0 ha0.size (hb1.alloc hb1.size (.cells #[.slice none 0 0, .int .u64 0, .int .u64 0] 38))
    clear hga HG HM HSB HSG HTB
    go_wp2_with fail
    go_ret
    exact ⟨rfl, hq2⟩
end Go.Proofs.YtniclaapiabmdaaGreatDoor
