
/- Branches of a store behind calls: a bank over any pile; what is left is as it was, what is written is seen. Fees as mathematics: what is paid ahead in bytes, where it is kept, what Ahead and Settle make of it. Fees: where they are kept (the program's key, the document's). What is paid ahead, put. -/
import Derived.Test.YtaafaaoioleokaaGreatDoorCliM
import Derived.Test.YtaafaaoioleokaaGreatDoorBankE
import Derived.Test.YtaafaaoioleokaaGreatDoorStoW1
import Derived.Deep.RegionHeldLaw
namespace Go.Proofs.YtaafaaoioleokaaGreatDoor
set_option maxRecDepth 100000
open Go Go.RowKit
set_option linter.unusedVariables false

theorem Kept.blockX {w w' : World} (h : Kept w w') {b : Nat} {cs : Array Value} {t : TypeId} {fr : Nat × Nat} (hb : w.heap[b]? = some (.cells cs t fr)) : w'.heap[b]? = some (.cells cs t fr) := by
  obtain ⟨F, h1, h2⟩ := h
  have hn : ¬ F b := fun k => by
    obtain ⟨es, c, e⟩ := h2 _ k
    rw [hb] at e; cases e
  exact (h1.block b (blk_lt hb) hn).trans hb
theorem SeenL.written {pfx : ByteArray} {y z : Lyr} {l : List Lyr} {R : List Pr} (h : SeenL pfx (y :: z :: l) R) {b m n : Nat} {f : LF} (hf : ∀ s : ByteArray, s.size ≤ maxLen → f s = wrF l.isEmpty y.f z.f (fun _ => false) s) : SeenL pfx (⟨b, m, n, f⟩ :: l) R where
  rise := h.rise
  small := h.small
  get := fun s hs => by
    rw [h.get s hs]
    have e : visV (⟨b, m, n, f⟩ :: l) s = visV (y :: z :: l) s := by
      unfold visV
      rw [visD_cons, visD_cons, visD_cons]
      have hq := hf s hs
      unfold wrF at hq
      rw [if_neg (by simp)] at hq
      dsimp only
      rw [hq]
      cases hy : y.f s with
      | none => rfl
      | some x =>
        dsimp only
        unfold wrC
        split
        · next hx =>
          obtain ⟨h1, h2⟩ := hx
          subst h2
          have : l = [] := by simpa using h1
          subst this
          rfl
        · rfl
    rw [e]
section
variable {W W' W2 : World} {y z : Lyr} {l : List Lyr} {R R2 : List Pr} {k j : Nat} {B : Nat}
theorem BankS.joinX {n : Nat} {f : LF} (h3 : n ≤ y.n + k) (h4 : Chg W W' (fun k => k = y.m)) (h : BankS W' ⟨y.b, y.m, n, f⟩ l R2 j W2) : BankS W y l R2 (k + j) W2 := by
  obtain ⟨n', f', g1, g2, g3, g4⟩ := h
  dsimp only at g1 g2 g3 g4
  exact ⟨n', f', g1, g2, by omega, h4.trans' g4⟩
theorem At.send (h : At W y l R k W') (hn : y.n + k + 2 ≤ maxLen) (a b d : ByteArray) (x : U4) (hx : x.ok) (ha : a.size ≤ 100000000) (hb : b.size ≤ 100000000) (hd : d.size ≤ 100000000) :
    Calls Tryz.prog 54 #[.pointer (some ⟨y.b, 0, none⟩), .string a, .string b, .string d, x.val] W' fun e w' => e = .returned (.int .i64 (sendM R a b d x).1) ∧ At W y l (sendM R a b d x).2 (k + 2) w' ∧ Kept W' w' := by
  obtain ⟨n, f, h1, h2, h3, h4⟩ := h.b
  refine (send_any h1 h2 (show n + 2 ≤ maxLen by omega) a b d x hx ha hb hd).mono ?_
  rintro e w' ⟨he, hq⟩
  exact ⟨he, ⟨BankS.joinX h3 h4 hq, h.p⟩, At.kept ⟨hq, h1⟩⟩
theorem Lyr.del_form (y : Lyr) (bot : Bool) (key : ByteArray) : ∃ n f, y.del bot key = ⟨y.b, y.m, n, f⟩ ∧ n ≤ y.n + 1 := by
  unfold Lyr.del
  split
  · exact ⟨_, _, rfl, by omega⟩
  · exact ⟨_, _, rfl, Nat.le_refl _⟩
theorem SeenL.delX {y : Lyr} {l : List Lyr} {R : List Pr} (h : SeenL ⟨#[]⟩ (y :: l) R) (key : ByteArray) : SeenL ⟨#[]⟩ (y.del l.isEmpty key :: l) (putL (key, none) R) where
  rise := h.rise.put _
  small := fun p hp => by
    rcases List.mem_append.1 ((putL_perm key _ R).mem_iff.1 hp) with hp | hp
    · simp at hp
    · exact h.small p (List.mem_filter.1 hp).1
  get := fun s hs => by
    have h0 := h.get s hs
    rw [begB_empty, if_pos rfl] at h0 ⊢
    rw [getL_putL]
    unfold visV at h0 ⊢
    rw [visD_cons] at h0 ⊢
    cases l with
    | nil =>
      have hv : (y.del ([] : List Lyr).isEmpty key).f s = if s = key then none else y.f s := rfl
      rw [hv]
      by_cases e : s = key
      · rw [if_pos e, if_pos e]; rfl
      · rw [if_neg e, if_neg e]; exact h0
    | cons z l =>
      have hv : (y.del (z :: l).isEmpty key).f s = if s = key then some none else y.f s := rfl
      rw [hv]
      by_cases e : s = key
      · rw [if_pos e, if_pos e]; rfl
      · rw [if_neg e, if_neg e]; exact h0
theorem At.del (h : At W y l R k W') (hn : y.n + k < maxLen) (key : ByteArray) (hk : key.size ≤ maxLen) :
    Calls Tryz.prog 60 #[.pointer (some ⟨y.b, 0, none⟩), .string key] W' fun e w' => e = .returned (.tuple #[]) ∧ At W y l (putL (key, none) R) (k + 1) w' ∧ Kept W' w' := by
  obtain ⟨n, f, h1, h2, h3, h4⟩ := h.b
  refine (del_any h1 (show n < maxLen by omega) key hk).mono ?_
  rintro e w' ⟨he, hq, hc⟩
  have hs := h2.delX key
  obtain ⟨n2, f2, e2, hn2⟩ := Lyr.del_form ⟨y.b, y.m, n, f⟩ l.isEmpty key
  rw [e2] at hq hs
  have hn3 : n2 ≤ n + 1 := hn2
  exact ⟨he, ⟨⟨n2, f2, hq, hs, by omega, h4.trans' hc⟩, h.p⟩, ⟨_, hc, h1.1.maps⟩⟩
/-- a branch z of a store y: R is seen of the store, R2 of the branch -/
structure Bra (W : World) (y : Lyr) (l : List Lyr) (R : List Pr) (k : Nat) (z : Lyr) (R2 : List Pr) (j : Nat) (W' : World) : Prop where
  ex : ∃ W1 n f, SeenL ⟨#[]⟩ (⟨y.b, y.m, n, f⟩ :: l) R ∧ n ≤ y.n + k ∧ Chg W W1 (fun q => q = y.m) ∧ At W1 z (⟨y.b, y.m, n, f⟩ :: l) R2 j W' ∧ W.heap.size ≤ z.m
  p : PileS W (y :: l)
  zn : z.n = 0
theorem At.branch (h : At W y l R k W') : Calls Tryz.prog 57 #[.pointer (some ⟨y.b, 0, none⟩)] W' fun e w' => ∃ z : Lyr, e = .returned (.pointer (some ⟨z.b, 0, none⟩)) ∧ W'.heap.size ≤ z.b ∧ W'.heap.size ≤ z.m ∧ Bra W y l R k z R 0 w' ∧ Below W'.heap.size W' w' := by
  obtain ⟨n, f, h1, h2, h3, h4⟩ := h.b
  refine (branch_any h1).mono ?_
  rintro e w' ⟨b, m, rfl, hb, hm, hp, hq⟩
  refine ⟨⟨b, m, 0, fun _ => none⟩, rfl, hb, hm, ⟨⟨w', n, f, h2, h3, h4.trans' (.of_below hq _), ⟨BankS.refl hp ⟨h2.rise, h2.small, fun s hs => ?_⟩, hp⟩, Nat.le_trans h4.size hm⟩, h.p, rfl⟩, hq⟩
  rw [h2.get s hs]
  rfl
theorem Bra.up (h : Bra W y l R k z R2 j W') (hb : Below W'.heap.size W' W2) : Bra W y l R k z R2 j W2 := by
  obtain ⟨W1, n, f, h1, h2, h3, h4, h5⟩ := h.ex
  exact ⟨⟨W1, n, f, h1, h2, h3, h4.up hb, h5⟩, h.p, h.zn⟩
theorem Bra.send (h : Bra W y l R k z R2 j W') (hn : j + 2 ≤ maxLen) (a b d : ByteArray) (x : U4) (hx : x.ok) (ha : a.size ≤ 100000000) (hb : b.size ≤ 100000000) (hd : d.size ≤ 100000000) :
    Calls Tryz.prog 54 #[.pointer (some ⟨z.b, 0, none⟩), .string a, .string b, .string d, x.val] W' fun e w' => e = .returned (.int .i64 (sendM R2 a b d x).1) ∧ Bra W y l R k z (sendM R2 a b d x).2 (j + 2) w' ∧ Kept W' w' := by
  obtain ⟨W1, n, f, h1, h2, h3, h4, h5⟩ := h.ex
  refine (h4.send (by have := h.zn; omega) a b d x hx ha hb hd).mono ?_
  rintro e w' ⟨he, hq, hk⟩
  exact ⟨he, ⟨⟨W1, n, f, h1, h2, h3, hq, h5⟩, h.p, h.zn⟩, hk⟩
theorem Bra.del (h : Bra W y l R k z R2 j W') (hn : j < maxLen) (key : ByteArray) (hk : key.size ≤ maxLen) :
    Calls Tryz.prog 60 #[.pointer (some ⟨z.b, 0, none⟩), .string key] W' fun e w' => e = .returned (.tuple #[]) ∧ Bra W y l R k z (putL (key, none) R2) (j + 1) w' ∧ Kept W' w' := by
  obtain ⟨W1, n, f, h1, h2, h3, h4, h5⟩ := h.ex
  refine (h4.del (by have := h.zn; omega) key hk).mono ?_
  rintro e w' ⟨he, hq, hk⟩
  exact ⟨he, ⟨⟨W1, n, f, h1, h2, h3, hq, h5⟩, h.p, h.zn⟩, hk⟩
theorem Chg.over (h1 : Chg W W' (fun q => q = y.m)) (h2 : Chg W' W2 (fun q => q = z.m ∨ q = y.m)) (hz : W.heap.size ≤ z.m) : Chg W W2 (fun q => q = y.m) :=
  ⟨h2.os.trans h1.os, h2.tape.trans h1.tape, h2.output.trans h1.output, Nat.le_trans h1.size h2.size, fun q hq hn => (h2.block q (Nat.lt_of_lt_of_le hq h1.size) (fun (e : q = z.m ∨ q = y.m) => e.elim (fun e => by omega) (fun e => hn e))).trans (h1.block q hq hn)⟩
/-- a branch that is left -/
theorem Bra.back (h : Bra W y l R k z R2 j W') : At W y l R k W' := by
  obtain ⟨W1, n, f, h1, h2, h3, h4, h5⟩ := h.ex
  obtain ⟨n', f', g1, g2, g3, g4⟩ := h4.b
  exact ⟨⟨n, f, g1.tail, h1, h2, Chg.over h3 (g4.mono fun _ _ e => .inl e) h5⟩, h.p⟩
/-- a branch that is written -/
theorem Bra.write (h : Bra W y l R k z R2 j W') (hn : y.n + k + j < maxLen) :
    Calls Tryz.prog 61 #[.pointer (some ⟨z.b, 0, none⟩)] W' fun e w' => e = .returned (.tuple #[]) ∧ At W y l R2 (k + j) w' ∧ Kept W' w' := by
  obtain ⟨W1, n, f, h1, h2, h3, h4, h5⟩ := h.ex
  obtain ⟨n', f', g1, g2, g3, g4⟩ := h4.b
  have hz := h.zn
  have hc3 := Chg.over h3 (g4.mono fun _ _ e => .inl e) h5
  refine (write_any g1 (show n + n' < maxLen by omega)).mono ?_
  rintro e w' ⟨he, n2, f2, q1, q2, q3, q4⟩
  dsimp only at q1 q2 q3 q4
  have hm1 := g1.1.maps
  have hm2 := g1.tail.1.maps
  exact ⟨he, ⟨⟨n2, f2, q1.tail, g2.written q3, by omega, Chg.over hc3 (q4.mono fun _ _ e => e.symm) h5⟩, h.p⟩, ⟨_, q4, fun q e => by
    rcases e with e | e
    · first | exact hm2 q e | exact hm1 q e
    · first | exact hm1 q e | exact hm2 q e⟩⟩
end
end Go.Proofs.YtaafaaoioleokaaGreatDoor
namespace Go.Proofs.YtaafaaoioleokaaGreatDoor
set_option maxRecDepth 100000
open Go Go.RowKit
set_option linter.unusedVariables false

def feeP : ByteArray := ⟨#[102, 101, 101, 47]⟩
def poolS : ByteArray := ⟨#[102, 101, 101, 112, 111, 111, 108]⟩
def kFee (a : ByteArray) (n : Nat) : ByteArray := ((feeP ++ a) ++ slB) ++ hexN n
theorem kFee_size (a : ByteArray) (n : Nat) : (kFee a n).size = a.size + 21 := by
  have h1 : feeP.size = 4 := by decide +kernel
  have h2 : slB.size = 1 := by decide +kernel
  have h3 := hexN_size n
  unfold kFee; simp only [ByteArray.size_append]; omega
theorem kFee_fits {a : ByteArray} (h : identB a = true) (n : Nat) : keyB (kFee a n) = true := by
  obtain ⟨h1, h2⟩ := identL_len2 h
  have h3 : a.data.toList.length = a.size := by simp
  have h4 := kFee_size a n
  unfold keyB
  simp only [Bool.and_eq_true, decide_eq_true_eq]
  omega
/-- what was paid ahead, and by whom -/
structure PdV where
  fr : ByteArray
  dn : ByteArray
  x : U4
  y : U4
  z : U4
def PdV.cells (v : PdV) : Array Value := #[.string v.fr, .string v.dn, .int .u64 (v.x.a : Int), .int .u64 (v.x.b : Int), .int .u64 (v.x.c : Int), .int .u64 (v.x.d : Int), .int .u64 (v.y.a : Int), .int .u64 (v.y.b : Int), .int .u64 (v.y.c : Int), .int .u64 (v.y.d : Int), .int .u64 (v.z.a : Int), .int .u64 (v.z.b : Int), .int .u64 (v.z.c : Int), .int .u64 (v.z.d : Int)]
def PdV.val (v : PdV) : Value := .agg v.cells
def PdV.none : PdV := ⟨⟨#[]⟩, ⟨#[]⟩, U4.zero, U4.zero, U4.zero⟩
def PdV.ok (v : PdV) : Prop := v.x.ok ∧ v.y.ok ∧ v.z.ok ∧ v.fr.size ≤ 65535 ∧ v.dn.size ≤ 65535
def pdB (v : PdV) : List UInt8 := (((encS v.fr ++ encS v.dn) ++ encB (be v.x.nat 32)) ++ encB (be v.y.nat 32)) ++ encB (be v.z.nat 32)
/-- a reader behind j amounts -/
def rst (l : List UInt8) (f : Int) : Nat → List UInt8 × Int
  | 0 => (l, f)
  | j + 1 => ((rB (rst l f j).1 (rst l f j).2).2.1, (rB (rst l f j).1 (rst l f j).2).2.2)
def ram (l : List UInt8) (f : Int) (j : Nat) : U4 × Int := fromU (rB (rst l f j).1 (rst l f j).2).1
def readPd (l : List UInt8) : Option PdV :=
  if (ram (rB (rB l 0).2.1 (rB l 0).2.2).2.1 (rB (rB l 0).2.1 (rB l 0).2.2).2.2 0).2 = 0 then if (ram (rB (rB l 0).2.1 (rB l 0).2.2).2.1 (rB (rB l 0).2.1 (rB l 0).2.2).2.2 1).2 = 0 then if (ram (rB (rB l 0).2.1 (rB l 0).2.2).2.1 (rB (rB l 0).2.1 (rB l 0).2.2).2.2 2).2 = 0 then
    if rEnd (rst (rB (rB l 0).2.1 (rB l 0).2.2).2.1 (rB (rB l 0).2.1 (rB l 0).2.2).2.2 3).1 (rst (rB (rB l 0).2.1 (rB l 0).2.2).2.1 (rB (rB l 0).2.1 (rB l 0).2.2).2.2 3).2 = 0 then some ⟨⟨(rB l 0).1.toArray⟩, ⟨(rB (rB l 0).2.1 (rB l 0).2.2).1.toArray⟩, (ram (rB (rB l 0).2.1 (rB l 0).2.2).2.1 (rB (rB l 0).2.1 (rB l 0).2.2).2.2 0).1, (ram (rB (rB l 0).2.1 (rB l 0).2.2).2.1 (rB (rB l 0).2.1 (rB l 0).2.2).2.2 1).1, (ram (rB (rB l 0).2.1 (rB l 0).2.2).2.1 (rB (rB l 0).2.1 (rB l 0).2.2).2.2 2).1⟩
    else Option.none else Option.none else Option.none else Option.none
def pdO : Option PdV → Value
  | some v => .tuple #[v.val, .bool true]
  | Option.none => .tuple #[PdV.none.val, .bool false]
def getPd (R : List Pr) (id : ByteArray) (n : Nat) : Option PdV := (getL R (kFee id n)).bind readPd
theorem encS_len (a : ByteArray) : (encS a).length ≤ 65539 := by
  unfold encS encB
  simp only [List.length_append, be_length, List.length_take]
  omega
theorem readPd_ok {l : List UInt8} {v : PdV} (h : readPd l = some v) : v.ok := by
  unfold readPd at h
  have b1 := rB_le l 0
  have b2 := rB_le (rB l 0).2.1 (rB l 0).2.2
  split at h
  · split at h
    · split at h
      · split at h
        · injection h with h
          subst h
          exact ⟨fromU_ok _, fromU_ok _, fromU_ok _, by simpa [ByteArray.size] using b1, by simpa [ByteArray.size] using b2⟩
        · cases h
      · cases h
    · cases h
  · cases h
theorem getPd_ok {R : List Pr} {id : ByteArray} {n : Nat} {v : PdV} (h : getPd R id n = some v) : v.ok := by
  unfold getPd at h
  cases hg : getL R (kFee id n) with
  | none => rw [hg] at h; cases h
  | some l => rw [hg] at h; exact readPd_ok h
theorem readPd_pdB {v : PdV} (h : v.ok) : readPd (pdB v) = some v := by
  obtain ⟨h1, h2, h3, h4, h5⟩ := h
  obtain ⟨fr, dn, x, y, z⟩ := v
  dsimp only at h1 h2 h3 h4 h5
  have e1 : ∀ rest, rB (encS fr ++ rest) 0 = (strBytes fr, rest, 0) := fun rest => by
    unfold encS; rw [rB_enc, List.take_of_length_le (by simpa [strBytes] using h4)]
  have e2 : ∀ rest, rB (encS dn ++ rest) 0 = (strBytes dn, rest, 0) := fun rest => by
    unfold encS; rw [rB_enc, List.take_of_length_le (by simpa [strBytes] using h5)]
  have e3 : ∀ (u : U4) rest, rB (encB (be u.nat 32) ++ rest) 0 = (be u.nat 32, rest, 0) := fun u rest => by
    rw [rB_enc, List.take_of_length_le (by simp [be_length])]
  have e4 := e3 z []
  rw [List.append_nil] at e4
  unfold readPd pdB ram
  simp only [rst, List.append_assoc, e1, e2, e3, e4, fromU_be h1, fromU_be h2, fromU_be h3]
  rfl
/-- the three amounts together; do they fit? -/
def totFee (v : PdV) : U4 × Bool := if (addU v.x v.y).2 = true then addU (addU v.x v.y).1 v.z else (U4.zero, false)
theorem totFee_ok (v : PdV) : (totFee v).1.ok := by
  unfold totFee
  split
  · exact addU_ok' _ _
  · exact zero_ok
def aheadM (R : List Pr) (id : ByteArray) (n : Nat) (v : PdV) : Int × List Pr :=
  if identB id = true then
    if (getL R (kPl wCommit id n)).isSome = true then
      if (getL R (kFee id n)).isSome = true then (150, R)
      else if (totFee v).2 = true then
        if (sendM R v.fr poolS v.dn (totFee v).1).1 = 0 then (0, putL (kFee id n, some (pdB v)) (sendM R v.fr poolS v.dn (totFee v).1).2)
        else ((sendM R v.fr poolS v.dn (totFee v).1).1, R)
      else (10, R)
    else (130, R)
  else (40, R)
/-- one gift -/
def giveM (R : List Pr) (v : PdV) (to : ByteArray) (x : U4) : Int × List Pr :=
  if eqB x U4.zero = true then (0, R) else sendM R poolS (if identB to = true then to else v.fr) v.dn x
/-- gifts, one behind the other, to the first error -/
def givesM (v : PdV) : List (ByteArray × U4) → List Pr → Int × List Pr
  | [], R => (0, R)
  | g :: l, R => if (giveM R v g.1 g.2).1 = 0 then givesM v l (giveM R v g.1 g.2).2 else giveM R v g.1 g.2
def giftsM (v : PdV) (fw by_ : ByteArray) (late : Bool) : List (ByteArray × U4) :=
  if late = true then [(v.fr, v.x), (v.fr, v.y), (by_, v.z)] else [(fw, v.x), (by_, v.y), (v.fr, v.z)]
def settleM (R : List Pr) (id : ByteArray) (n : Nat) (fw by_ : ByteArray) (late : Bool) : Int × List Pr :=
  match getPd R id n with
  | Option.none => (0, R)
  | some v => if (givesM v (giftsM v fw by_ late) R).1 = 0 then (0, putL (kFee id n, Option.none) (givesM v (giftsM v fw by_ late) R).2) else ((givesM v (giftsM v fw by_ late) R).1, R)
theorem ahead_no {R : List Pr} {id : ByteArray} {n : Nat} {v : PdV} (h : (aheadM R id n v).1 ≠ 0) : (aheadM R id n v).2 = R := by
  unfold aheadM at h ⊢
  split
  · split
    · split
      · rfl
      · split
        · split
          · next h1 h2 h3 h4 h5 => rw [if_pos h1, if_pos h2, if_neg h3, if_pos h4, if_pos h5] at h; exact absurd rfl h
          · rfl
        · rfl
    · rfl
  · rfl
theorem settle_no {R : List Pr} {id : ByteArray} {n : Nat} {fw by_ : ByteArray} {late : Bool} (h : (settleM R id n fw by_ late).1 ≠ 0) : (settleM R id n fw by_ late).2 = R := by
  unfold settleM at h ⊢
  cases hg : getPd R id n with
  | none => rfl
  | some v =>
    rw [hg] at h
    dsimp only at h ⊢
    split
    · next h1 => rw [if_pos h1] at h; exact absurd rfl h
    · rfl
end Go.Proofs.YtaafaaoioleokaaGreatDoor
namespace Go.Proofs.YtaafaaoioleokaaGreatDoor
set_option maxRecDepth 100000
open Go Go.RowKit
set_option linter.unusedVariables false

theorem fkey_any (a : ByteArray) (n : Nat) (w : World) (hn : n < 18446744073709551616) (ha : a.size ≤ 100000000) :
    Calls Tryz.prog 52 #[.string a, .int .u64 (n : Int)] w fun e w' => e = .returned (.string (kFee a n)) ∧ Below w.heap.size w w' := by
  have s1 : feeP.size = 4 := rfl
  have s2 : slB.size = 1 := rfl
  have s3 := hexN_size n
  have z3 : (feeP ++ a).size = a.size + 4 := by rw [ByteArray.size_append, s1]; omega
  have z4 : ((feeP ++ a) ++ slB).size = a.size + 5 := by rw [ByteArray.size_append, z3, s2]
  have h3 := fun W => txt_add feeP a (by rw [s1]; omega) W
  have h4 := fun W => txt_add (feeP ++ a) slB (by rw [z3, s2]; omega) W
  have h5 := fun W => txt_add ((feeP ++ a) ++ slB) (hexN n) (by rw [z4, s3]; omega) W
  have HX := Lib.hid (chex_any n w hn)
  unfold kFee
  generalize hexN n = S at *
  generalize (feeP ++ a) ++ slB = x4 at *
  generalize hx3 : feeP ++ a = x3 at *
  clear hx3 z3 z4 s3
  unfold feeP slB at *
  go_enter Tryz.func52, Tryz.ntmps52
  go_wp2_with fail
  refine HX.out.mono ?_
  rintro e w1 ⟨rfl, hb⟩
  go_wp2_with fail
  go_ret
  exact ⟨rfl, hb⟩
end Go.Proofs.YtaafaaoioleokaaGreatDoor
namespace Go.Proofs.YtaafaaoioleokaaGreatDoor
set_option maxRecDepth 100000
open Go Go.RowKit
set_option linter.unusedVariables false

def amF (v : PdV) (j : Nat) : U4 := if j = 0 then v.x else if j = 1 then v.y else v.z
def feeL (v : PdV) (j : Nat) : List UInt8 := (encS v.fr ++ encS v.dn) ++ ((List.range j).flatMap fun i => encB (be (amF v i).nat 32))
theorem feeL_next (v : PdV) (j : Nat) : feeL v (j + 1) = feeL v j ++ encB (be (amF v j).nat 32) := by
  unfold feeL
  rw [List.range_succ, List.flatMap_append]
  simp
theorem feeL_three (v : PdV) : feeL v 3 = pdB v := by
  rw [feeL_next, feeL_next, feeL_next]
  simp [feeL, pdB, amF]
theorem encB_32 (u : U4) : (encB (be u.nat 32)).length = 36 := by
  unfold encB
  simp [be_length]
theorem feeL_len (v : PdV) (j : Nat) : (feeL v j).length ≤ 131078 + j * 36 := by
  induction j with
  | zero =>
    have h1 := encS_len v.fr
    have h2 := encS_len v.dn
    simp [feeL]
    omega
  | succ j ih =>
    rw [feeL_next, List.length_append, encB_32]
    omega
theorem encS_small (a : ByteArray) : (encS a).length ≤ a.size + 4 := by
  unfold encS encB
  simp only [List.length_append, be_length, List.length_take, strBytes_length]
  omega
theorem pdB_len (v : PdV) (h1 : v.fr.size ≤ 1000) (h2 : v.dn.size ≤ 1000) : (pdB v).length ≤ 65535 := by
  have e1 := encS_small v.fr
  have e2 := encS_small v.dn
  unfold pdB
  simp only [List.length_append, encB_32]
  omega
theorem amF_ok {v : PdV} (h : v.ok) (j : Nat) : (amF v j).ok := by
  obtain ⟨h1, h2, h3, -⟩ := h
  unfold amF
  split
  · exact h1
  · split
    · exact h2
    · exact h3
set_option maxHeartbeats 8000000 in
theorem fput_any {W w : World} {y : Lyr} {l : List Lyr} {R : List Pr} {k : Nat} (h : At W y l R k w) (hn : y.n + k < maxLen) (id : ByteArray) (hid : identB id = true) (n : Nat) (hn64 : n < 18446744073709551616) (v : PdV) (hv : v.ok) (hfr : v.fr.size ≤ 1000) (hdn : v.dn.size ≤ 1000) :
    Calls Tryz.prog 55 #[.pointer (some ⟨y.b, 0, none⟩), .string id, .int .u64 (n : Int), v.val] w fun e w' => e = .returned (.tuple #[]) ∧ At W y l (putL (kFee id n, some (pdB v)) R) (k + 1) w' ∧ Kept w w' := by
  have hids : id.size ≤ 32 := by
    have := (identL_len2 hid).2
    simpa using this
  have hbox := heap_alloc_new w (.cells v.cells 103)
  have ha0 : Below w.heap.size w (w.alloc (.cells v.cells 103)) := (Below.refl _ _).alloc (Nat.le_refl _) _
  have A0 := h.up ha0
  have hkW : Kept w (w.alloc (.cells v.cells 103)) := Kept.of_belowX ha0
  have HK := Lib.hid (fun Z : World => fkey_any id n Z hn64 (by omega))
  have hks := kFee_size id n
  have hpb : pairB (kFee id n, pdB v) = true := by
    unfold pairB
    simp only [Bool.and_eq_true, decide_eq_true_eq]
    exact ⟨kFee_fits hid n, pdB_len v hfr hdn⟩
  have HS : Hid (∀ (Z Z' : World) (v' : Value) (B : Nat), At W y l R k Z → Own Z B v' (pdB v) → Calls Tryz.prog 13 #[.pointer (some ⟨y.b, 0, none⟩), .string (kFee id n), v'] Z fun e w' => e = .returned (.int .i64 0) ∧ At W y l (putL (kFee id n, some (pdB v)) R) (k + 1) w' ∧ Kept Z w') := Lib.hid fun Z _ v' B hz ho => by
    have := hz.set hn (kFee id n) (by unfold maxLen; omega) v' _ ho.rd
    rw [if_pos hpb] at this
    unfold setL at this
    rwa [if_pos hpb] at this
  have HL3 := Lib.hid (feeL_three v)
  have HLN := Lib.hid (feeL_next v)
  have HLE := Lib.hid (feeL_len v)
  have HAO := Lib.hid (fun j => amF_ok hv j)
  have hAM : ∀ j, j < 3 → ∀ i u, (amF v j).cells[i]? = some u → v.cells[2 + j * 4 + i]? = some u := by
    intro j hj i u hu
    have hi : i < 4 := by
      have := (Array.getElem?_eq_some_iff.1 hu).1
      simpa [U4.cells] using this
    match j, hj with
    | 0, _ => match i, hi with
      | 0, _ => exact hu
      | 1, _ => exact hu
      | 2, _ => exact hu
      | 3, _ => exact hu
    | 1, _ => match i, hi with
      | 0, _ => exact hu
      | 1, _ => exact hu
      | 2, _ => exact hu
      | 3, _ => exact hu
    | 2, _ => match i, hi with
      | 0, _ => exact hu
      | 1, _ => exact hu
      | 2, _ => exact hu
      | 3, _ => exact hu
  have hL0 : feeL v 0 = encS v.fr ++ encS v.dn := by simp [feeL]
  generalize pdB v = PB at *
  generalize kFee id n = KF at *
  obtain ⟨fr, dn, x, y2, z⟩ := v
  unfold PdV.val PdV.cells at *
  dsimp only at *
  have HT1 : Hid (∀ Z : World, Calls Tryz.prog 92 #[.slice none 0 0, .string fr] Z fun e w' => ∃ v', e = .returned v' ∧ Own w' Z.heap.size v' (encS fr) ∧ Below Z.heap.size Z w') := Lib.hid fun Z => by
    have h := T_any (.slice none 0 0) fr [] Z (Rd.nil _ _) (by unfold maxLen; omega) (by simp)
    rwa [show [] ++ be ((strBytes fr).take 65535).length 4 ++ (strBytes fr).take 65535 = encS fr by simp [encS, encB]] at h
  have HT2 : Hid (∀ (v : Value) (Z : World) (B : Nat), Own Z B v (encS fr) → Calls Tryz.prog 92 #[v, .string dn] Z fun e w' => ∃ v', e = .returned v' ∧ Own w' Z.heap.size v' (encS fr ++ encS dn) ∧ Below Z.heap.size Z w') := Lib.hid fun v Z B ho => by
    have h := T_any v dn (encS fr) Z ho.rd (by unfold maxLen; omega) (by have := encS_len fr; omega)
    rwa [show encS fr ++ be ((strBytes dn).take 65535).length 4 ++ (strBytes dn).take 65535 = encS fr ++ encS dn by simp [encS, encB]] at h
  rw [← hL0] at HT2
  generalize encS fr = L1 at *
  generalize hL : feeL ⟨fr, dn, x, y2, z⟩ = FL at *
  generalize hA : amF ⟨fr, dn, x, y2, z⟩ = AM at *
  clear hL hA hL0 hpb h hn hfr hdn hv hids hks
  generalize hW0 : w.alloc (.cells #[.string fr, .string dn, .int .u64 (x.a : Int), .int .u64 (x.b : Int), .int .u64 (x.c : Int), .int .u64 (x.d : Int), .int .u64 (y2.a : Int), .int .u64 (y2.b : Int), .int .u64 (y2.c : Int), .int .u64 (y2.d : Int), .int .u64 (z.a : Int), .int .u64 (z.b : Int), .int .u64 (z.c : Int), .int .u64 (z.d : Int)] 103) = W0 at *
  have HC : Hid (∀ Z, Below W0.heap.size W0 Z → Z.cell? ⟨w.heap.size, 0, none⟩ = some (.string fr) ∧ Z.cell? ⟨w.heap.size, 1, none⟩ = some (.string dn)) := Lib.hid fun Z hz =>
    ⟨(hz.cell (p := ⟨w.heap.size, 0, none⟩) (blk_lt hbox)).trans (blk_cell hbox 0), (hz.cell (p := ⟨w.heap.size, 1, none⟩) (blk_lt hbox)).trans (blk_cell hbox 1)⟩
  have HBX := Lib.hid hbox
  have HA0 := Lib.hid A0
  have HKW := Lib.hid hkW
  have hkD : Below W0.heap.size W0 W0.drew := (Below.refl _ _).drew
  clear hbox A0 hkW ha0
  go_enter Tryz.func55, Tryz.ntmps55
  go_wp2_with fail
  try rw [hW0]
  clear hW0
  go_region_held_law (fun Z => Z.cell? ⟨w.heap.size, 0, none⟩ = some (.string fr) ∧ Z.cell? ⟨w.heap.size, 1, none⟩ = some (.string dn))
    (with_reducible first | exact HC.out _ hk2 | exact HC.out _ hk1 | exact HC.out _ hkD)
    ((first
      | (go_at_call 92; first
          | (refine (HT2.out _ _ _ ho1).mono ?_; rintro e w2 ⟨v2, rfl, ho2, hb2⟩; have hk2 := below_chain hk1 hk1.size hb2)
          | (refine (HT1.out _).mono ?_; rintro e w1 ⟨v1, rfl, ho1, hb1⟩; have hk1 := below_chain hkD hkD.size hb1))))
  all_goals
    have hb0 := (hk2.block _ (blk_lt HBX.out)).trans HBX.out
    have b2 := blk_cell hb0 2
    have b3 := blk_cell hb0 3
    have b4 := blk_cell hb0 4
    have b5 := blk_cell hb0 5
    have b6 := blk_cell hb0 6
    have b7 := blk_cell hb0 7
    have b8 := blk_cell hb0 8
    have b9 := blk_cell hb0 9
    have b10 := blk_cell hb0 10
    have b11 := blk_cell hb0 11
    have b12 := blk_cell hb0 12
    have b13 := blk_cell hb0 13
    have HO := Lib.hid ho2
    obtain ⟨A2, c2, rfl⟩ := ho2.form
    have hrow := heap_alloc_new w2 (.cells #[.int .u64 (x.a : Int), .int .u64 (x.b : Int), .int .u64 (x.c : Int), .int .u64 (x.d : Int), .int .u64 (y2.a : Int), .int .u64 (y2.b : Int), .int .u64 (y2.c : Int), .int .u64 (y2.d : Int), .int .u64 (z.a : Int), .int .u64 (z.b : Int), .int .u64 (z.c : Int), .int .u64 (z.d : Int)] 32)
    have ha2 : Below w2.heap.size w2 (w2.alloc (.cells #[.int .u64 (x.a : Int), .int .u64 (x.b : Int), .int .u64 (x.c : Int), .int .u64 (x.d : Int), .int .u64 (y2.a : Int), .int .u64 (y2.b : Int), .int .u64 (y2.c : Int), .int .u64 (y2.d : Int), .int .u64 (z.a : Int), .int .u64 (z.b : Int), .int .u64 (z.c : Int), .int .u64 (z.d : Int)] 32)) := (Below.refl _ _).alloc (Nat.le_refl _) _
    have hq3 := below_chain hk2 hk2.size ha2
    obtain ⟨n2, hn2⟩ : ∃ m, m = (FL 0).length := ⟨_, rfl⟩
    rw [← hn2] at HO ⊢
    clear hn2 ho1 ho2 hb1 hb2 hk1 hkD hb0 HT1 HT2 HC
    go_wp2_with fail
    have HO3 := Lib.hid (HO.out.below ha2)
    generalize w2.alloc (.cells #[.int .u64 (x.a : Int), .int .u64 (x.b : Int), .int .u64 (x.c : Int), .int .u64 (x.d : Int), .int .u64 (y2.a : Int), .int .u64 (y2.b : Int), .int .u64 (y2.c : Int), .int .u64 (y2.d : Int), .int .u64 (z.a : Int), .int .u64 (z.b : Int), .int .u64 (z.c : Int), .int .u64 (z.d : Int)] 32) = w3 at *
    generalize w2.heap.size = gs at *
    have HR : Hid (∀ Z, Below w3.heap.size w3 Z → ∀ j, j < 3 → ∀ i u, (AM j).cells[i]? = some u → Z.cell? ⟨gs, j * 4 + i, none⟩ = some u) := Lib.hid fun Z hz j hj i u hu => by
      have h := hAM j hj i u hu
      rw [(hz.cell (p := ⟨gs, j * 4 + i, none⟩) (blk_lt hrow)), blk_cell hrow (j * 4 + i), ← h]
      have hi : i < 4 := by
        have := (Array.getElem?_eq_some_iff.1 hu).1
        simpa [U4.cells] using this
      match j, hj with
      | 0, _ => match i, hi with
        | 0, _ => rfl
        | 1, _ => rfl
        | 2, _ => rfl
        | 3, _ => rfl
      | 1, _ => match i, hi with
        | 0, _ => rfl
        | 1, _ => rfl
        | 2, _ => rfl
        | 3, _ => rfl
      | 2, _ => match i, hi with
        | 0, _ => rfl
        | 1, _ => rfl
        | 2, _ => rfl
        | 3, _ => rfl
    have HQ3 := Lib.hid hq3
    clear hrow ha2 hq3 b2 b3 b4 b5 b6 b7 b8 b9 b10 b11 b12 b13 hk2 HO HBX hAM
    go_loopw [8, 29] (fun b i Z => ∃ j : Nat, j ≤ 3 ∧ i = .int .i64 (j : Int) ∧ Hid (Own Z 0 b (FL j) ∧ Below w3.heap.size w3 Z))
      (fun _ i _ => 3 - (intOf i).toNat)
    case atStart => exact ⟨0, by omega, rfl, Lib.hid ⟨HO3.out.more (Nat.zero_le _), Below.refl _ _⟩⟩
    case round => as_aux_lemma =>
      obtain ⟨j, hj, rfl, HX⟩ := hrel
      have hO := HX.out.1
      obtain ⟨A3, c3, rfl⟩ := hO.form
      have hW := HX.out.2
      by_cases hlt : j < 3
      · have i1 : (0 : Int) ≤ (j : Int) := by omega
        have i2 : (j : Int) < 3 := by omega
        have hc := HR.out _ hW j hlt
        have hLe := HLE.out j
        have HNX := Lib.hid (HLN.out j)
        have haok := HAO.out j
        generalize AM j = ox at *
        have e0 : wr.cell? ⟨gs, j * 4, none⟩ = some (.int .u64 (ox.a : Int)) := hc 0 _ rfl
        have e1 : wr.cell? ⟨gs, j * 4 + 1, none⟩ = some (.int .u64 (ox.b : Int)) := hc 1 _ rfl
        have e2 : wr.cell? ⟨gs, j * 4 + 2, none⟩ = some (.int .u64 (ox.c : Int)) := hc 2 _ rfl
        have e3 : wr.cell? ⟨gs, j * 4 + 3, none⟩ = some (.int .u64 (ox.d : Int)) := hc 3 _ rfl
        have HY : Hid (∀ Z : World, Calls Tryz.prog 127 #[.agg #[.int .u64 (ox.a : Int), .int .u64 (ox.b : Int), .int .u64 (ox.c : Int), .int .u64 (ox.d : Int)]] Z fun e w' => ∃ v', e = .returned v' ∧ Own w' Z.heap.size v' (be ox.nat 32) ∧ Below Z.heap.size Z w') := Lib.hid fun Z => bytes_any ox Z haok
        have HQ : Hid (∀ (v x : Value) (Z : World) (B B' : Nat), Own Z B v (FL j) → Own Z B' x (be ox.nat 32) → Calls Tryz.prog 126 #[v, x] Z fun e w' => ∃ v', e = .returned v' ∧ Own w' Z.heap.size v' (FL (j + 1)) ∧ Below Z.heap.size Z w') := Lib.hid fun v x Z B B' h h2 => by
          have h3 := B_any v x (FL j) (be ox.nat 32) Z h.rd h2.rd (by omega)
          rwa [List.append_assoc, show be ((be ox.nat 32).take 65535).length 4 ++ (be ox.nat 32).take 65535 = encB (be ox.nat 32) from rfl, ← HNX.out] at h3
        have hk := heap_alloc_new wr (.cells #[.int .u64 (ox.a : Int), .int .u64 (ox.b : Int), .int .u64 (ox.c : Int), .int .u64 (ox.d : Int)] 32)
        have ha : Below wr.heap.size wr (wr.alloc (.cells #[.int .u64 (ox.a : Int), .int .u64 (ox.b : Int), .int .u64 (ox.c : Int), .int .u64 (ox.d : Int)] 32)) := (Below.refl _ _).alloc (Nat.le_refl _) _
        have x0 := blk_cell hk 0
        have x1 := blk_cell hk 1
        have x2 := blk_cell hk 2
        have x3 := blk_cell hk 3
        generalize be ox.nat 32 = LU at *
        have HOW := Lib.hid hO
        obtain ⟨nl, hnl⟩ : ∃ m, m = (FL j).length := ⟨_, rfl⟩
        rw [← hnl] at HOW ⊢
        have HA1 := Lib.hid (below_chain hW hW.size ha)
        have HAA := Lib.hid ha
        clear hc hLe haok hO hnl ha hW
        go_wp2_with fail
        refine (HY.out _).mono ?_
        rintro e w5 ⟨v5, rfl, hoU, hb5⟩
        have hq5 := below_chain HA1.out HA1.out.size hb5
        have ho5 := (HOW.out.below HAA.out).below hb5
        have HB5 := Lib.hid (HQ.out _ _ _ _ _ ho5 hoU)
        obtain ⟨A5, c5, rfl⟩ := hoU.form
        generalize LU.length = nu at *
        clear hk x0 x1 x2 x3 e0 e1 e2 e3 HY HQ hoU ho5 hb5
        go_wp2_with fail
        refine HB5.out.mono ?_
        rintro e w6 ⟨v6, rfl, ho6, hb6⟩
        have hq6 := below_chain hq5 hq5.size hb6
        go_wp2_with fail
        refine ⟨⟨j + 1, by omega, ?_, Lib.hid ⟨ho6.more (Nat.zero_le _), hq6⟩⟩, ?_⟩
        · simp
        · simp [intOf]; omega
      · have i2 : ¬ (j : Int) < 3 := by omega
        obtain rfl : j = 3 := by omega
        have hq := below_chain HQ3.out HQ3.out.size hW
        have HOW := Lib.hid hO
        generalize (FL 3).length = nl at *
        have HAW := Lib.hid (HA0.out.up hq)
        clear hO hW HX HR
        go_wp2_with fail
        refine (HK.out _).mono ?_
        rintro e w7 ⟨rfl, hb7⟩
        have HSW := Lib.hid (HS.out w7 w7 _ 0 (HAW.out.up hb7) (by rw [← HL3.out]; exact HOW.out.below hb7))
        have hqf := below_chain hq hq.size hb7
        go_wp2_with fail
        refine HSW.out.mono ?_
        rintro e w8 ⟨rfl, A8, hk8⟩
        have hkf := (HKW.out.transX (Kept.of_belowX hqf)).transX hk8
        go_wp2_with fail
        go_end0
        exact ⟨rfl, A8, hkf⟩
end Go.Proofs.YtaafaaoioleokaaGreatDoor
