
/- The bank's mathematics: where amounts are kept in a list of pairs in order, what Mint, Burn and Send make of it. The bank's mathematics: what calls do to balances and supplies; sums of balances; undoing. -/
import Derived.Test.YtmphegeiclgjbaaGreatDoorStoM0
import Derived.Test.YtmphegeiclgjbaaGreatDoorLimbS0
import Derived.Test.YtmphegeiclgjbaaGreatDoorLimbA0
import Derived.Test.YtmphegeiclgjbaaGreatDoorNameI1
namespace Go.Proofs.YtmphegeiclgjbaaGreatDoor
set_option maxRecDepth 100000
open Go
set_option linter.unusedVariables false

def balP : ByteArray := ⟨#[98, 97, 108, 47]⟩
def supP : ByteArray := ⟨#[115, 117, 112, 47]⟩
def slB : ByteArray := ⟨#[47]⟩
def kBal (a d : ByteArray) : ByteArray := ((balP ++ a) ++ slB) ++ d
def kSup (d : ByteArray) : ByteArray := supP ++ d
def identB (s : ByteArray) : Bool := identL s.data.toList
def denomB (s : ByteArray) : Bool := denomL s.data.toList
/-- the amount under a key -/
def amtU (R : List Pr) (key : ByteArray) : U4 := (fromU ((getL R key).getD [])).1
/-- an amount kept under a key; 0 is not kept -/
def keepL (key : ByteArray) (x : U4) (R : List Pr) : List Pr := putL (key, if eqB x U4.zero = true then none else some (be x.nat 32)) R

theorem data_list (a b : ByteArray) : (a ++ b).data.toList = a.data.toList ++ b.data.toList := by simp [ByteArray.data_append]
theorem bytes_ext {a b : ByteArray} (h : a.data.toList = b.data.toList) : a = b := by
  cases a with | mk a => cases b with | mk b =>
  have : a = b := by simpa using h
  rw [this]
theorem kBal_list (a d : ByteArray) : (kBal a d).data.toList = [98, 97, 108, 47] ++ (a.data.toList ++ (47 :: d.data.toList)) := by
  unfold kBal
  rw [data_list, data_list, data_list]
  simp [balP, slB]
theorem kSup_list (d : ByteArray) : (kSup d).data.toList = [115, 117, 112, 47] ++ d.data.toList := by
  unfold kSup
  rw [data_list]
  simp [supP]
theorem kBal_ne_kSup (a d d' : ByteArray) : kBal a d ≠ kSup d' := fun e => by
  have h : (kBal a d).data.toList = (kSup d').data.toList := by rw [e]
  rw [kBal_list, kSup_list] at h
  injection h with h _
  exact absurd h (by decide)
theorem kSup_inj {d d' : ByteArray} (e : kSup d = kSup d') : d = d' := by
  have h : (kSup d).data.toList = (kSup d').data.toList := by rw [e]
  rw [kSup_list, kSup_list] at h
  exact bytes_ext (List.append_cancel_left h)
theorem cut47 : ∀ {l l' m m' : List UInt8}, (47 : UInt8) ∉ l → (47 : UInt8) ∉ l' → l ++ 47 :: m = l' ++ 47 :: m' → l = l' ∧ m = m'
  | [], [], _, _, _, _, h => ⟨rfl, by simpa using h⟩
  | [], c :: l', _, _, _, h2, h => by
    injection h with h _
    exact absurd (by rw [h]; simp) h2
  | c :: l, [], _, _, h1, _, h => by
    injection h with h _
    exact absurd (by rw [← h]; simp) h1
  | c :: l, c' :: l', _, _, h1, h2, h => by
    injection h with h h3
    obtain ⟨e1, e2⟩ := cut47 (l := l) (l' := l') (fun k => h1 (by simp [k])) (fun k => h2 (by simp [k])) h3
    exact ⟨by rw [h, e1], e2⟩
theorem kBal_inj {a a' d d' : ByteArray} (ha : identB a = true) (ha' : identB a' = true) (e : kBal a d = kBal a' d') : a = a' ∧ d = d' := by
  have h : (kBal a d).data.toList = (kBal a' d').data.toList := by rw [e]
  rw [kBal_list, kBal_list] at h
  obtain ⟨e1, e2⟩ := cut47 (identL_no47 ha) (identL_no47 ha') (List.append_cancel_left h)
  exact ⟨bytes_ext e1, bytes_ext e2⟩
theorem identL_len2 {l : List UInt8} (h : identL l = true) : 1 ≤ l.length ∧ l.length ≤ 32 := by
  cases l with
  | nil => cases h
  | cons a r =>
    simp only [identL, Bool.and_eq_true, decide_eq_true_eq] at h
    simp only [List.length_cons]
    omega
theorem kBal_fits {a d : ByteArray} (ha : identB a = true) (hd : denomB d = true) : keyB (kBal a d) = true := by
  have h1 := identL_len2 ha
  have h2 : d.data.toList.length ≤ 160 := by
    unfold denomB denomL at hd
    simp only [Bool.and_eq_true, decide_eq_true_eq] at hd
    exact hd.1
  have h3 := congrArg List.length (kBal_list a d)
  have h4 : (kBal a d).data.toList.length = (kBal a d).size := by rw [Array.length_toList]; rfl
  rw [h4] at h3
  simp only [List.length_append, List.length_cons, List.length_nil] at h3
  simp only [keyB, Bool.and_eq_true, decide_eq_true_eq]
  omega
theorem kSup_fits {d : ByteArray} (hd : denomB d = true) : keyB (kSup d) = true := by
  have h2 : d.data.toList.length ≤ 160 := by
    unfold denomB denomL at hd
    simp only [Bool.and_eq_true, decide_eq_true_eq] at hd
    exact hd.1
  have h3 := congrArg List.length (kSup_list d)
  have h4 : (kSup d).data.toList.length = (kSup d).size := by rw [Array.length_toList]; rfl
  rw [h4] at h3
  simp only [List.length_append, List.length_cons, List.length_nil] at h3
  simp only [keyB, Bool.and_eq_true, decide_eq_true_eq]
  omega

section
variable {R : List Pr} {key k : ByteArray} {x : U4}
theorem amt_ok (R : List Pr) (key : ByteArray) : (amtU R key).ok := fromU_ok _
theorem getL_keep : getL (keepL key x R) k = if k = key then (if eqB x U4.zero = true then none else some (be x.nat 32)) else getL R k := by
  unfold keepL
  rw [getL_putL]
theorem amt_keep (hx : x.ok) : amtU (keepL key x R) k = if k = key then x else amtU R k := by
  unfold amtU
  rw [getL_keep]
  by_cases e : k = key
  · rw [if_pos e, if_pos e]
    by_cases h0 : eqB x U4.zero = true
    · rw [if_pos h0, eqB_iff.1 h0]
      rfl
    · rw [if_neg h0]
      show (fromU (be x.nat 32)).1 = x
      rw [fromU_be hx]
  · rw [if_neg e, if_neg e]
theorem Rise.keep (h : Rise R) : Rise (keepL key x R) := h.put _
end

/-- what an address has -/
def balM (R : List Pr) (a d : ByteArray) : U4 := if (identB a && denomB d) = true then amtU R (kBal a d) else U4.zero
/-- how much there is -/
def supM (R : List Pr) (d : ByteArray) : U4 := if denomB d = true then amtU R (kSup d) else U4.zero
/-- the error of an address, a denomination and an amount -/
def rightM (a d : ByteArray) (x : U4) : Int := if identB a = true then (if denomB d = true then (if eqB x U4.zero = true then 70 else 0) else 41) else 40
/-- Mint and Burn: the supply and a balance, reckoned on -/
def changeM (op : U4 → U4 → U4 × Bool) (unfit : Int) (R : List Pr) (a d : ByteArray) (x : U4) : Int × List Pr :=
  if rightM a d x = 0 then
    if ((op (supM R d) x).2 && (op (balM R a d) x).2) = true then (0, keepL (kBal a d) (op (balM R a d) x).1 (keepL (kSup d) (op (supM R d) x).1 R)) else (unfit, R)
  else (rightM a d x, R)
def mintM := changeM addU 10
def burnM := changeM subU 71
def sendM (R : List Pr) (a b d : ByteArray) (x : U4) : Int × List Pr :=
  if rightM a d x = 0 then
    if identB b = true then
      if (subU (balM R a d) x).2 = true then
        if a = b then (0, R)
        else if (addU (balM R b d) x).2 = true then (0, keepL (kBal b d) (addU (balM R b d) x).1 (keepL (kBal a d) (subU (balM R a d) x).1 R))
        else (10, R)
      else (71, R)
    else (40, R)
  else (rightM a d x, R)
section
variable {R : List Pr} {a b d : ByteArray} {x : U4} {op : U4 → U4 → U4 × Bool} {u : Int}
theorem balM_ok (R : List Pr) (a d : ByteArray) : (balM R a d).ok := by
  unfold balM; split
  · exact amt_ok _ _
  · exact zero_ok
theorem supM_ok (R : List Pr) (d : ByteArray) : (supM R d).ok := by
  unfold supM; split
  · exact amt_ok _ _
  · exact zero_ok
theorem rightM_zero (h : rightM a d x = 0) : identB a = true ∧ denomB d = true ∧ eqB x U4.zero = false := by
  unfold rightM at h
  split at h
  · split at h
    · split at h
      · cases h
      · next h1 h2 h3 => exact ⟨h1, h2, by simpa using h3⟩
    · cases h
  · cases h
theorem Rise.change (h : Rise R) : Rise (changeM op u R a d x).2 := by
  unfold changeM
  split
  · split
    · exact h.keep.keep
    · exact h
  · exact h
theorem Rise.send (h : Rise R) : Rise (sendM R a b d x).2 := by
  unfold sendM
  split
  · split
    · split
      · split
        · exact h
        · split
          · exact h.keep.keep
          · exact h
      · exact h
    · exact h
  · exact h
/-- what is refused changes nothing -/
theorem change_no (hu : u ≠ 0) (h : (changeM op u R a d x).1 ≠ 0) : (changeM op u R a d x).2 = R := by
  unfold changeM at h ⊢
  split
  · split
    · next h1 h2 => rw [if_pos h1, if_pos h2] at h; exact absurd rfl h
    · rfl
  · rfl
theorem send_no (h : (sendM R a b d x).1 ≠ 0) : (sendM R a b d x).2 = R := by
  unfold sendM at h ⊢
  split
  · next h1 =>
    rw [if_pos h1] at h
    split
    · next h2 =>
      rw [if_pos h2] at h
      split
      · next h3 =>
        rw [if_pos h3] at h
        split
        · rfl
        · next h4 =>
          rw [if_neg h4] at h
          split
          · next h5 => rw [if_pos h5] at h; exact absurd rfl h
          · rfl
      · rfl
    · rfl
  · rfl
/-- sent to oneself -/
theorem send_self : (sendM R a a d x).2 = R := by
  unfold sendM
  split
  · split
    · split
      · rw [if_pos rfl]
      · rfl
    · rfl
  · rfl
end
end Go.Proofs.YtmphegeiclgjbaaGreatDoor
namespace Go.Proofs.YtmphegeiclgjbaaGreatDoor
set_option maxRecDepth 100000
open Go
set_option linter.unusedVariables false

section
variable {R : List Pr} {a b c d e key k : ByteArray} {x y : U4} {op : U4 → U4 → U4 × Bool} {u : Int}
theorem balM_keep_sup (hy : y.ok) : balM (keepL (kSup d) y R) a e = balM R a e := by
  unfold balM
  rw [amt_keep hy, if_neg (kBal_ne_kSup _ _ _)]
theorem supM_keep_bal (hy : y.ok) : supM (keepL (kBal a d) y R) e = supM R e := by
  unfold supM
  by_cases h : denomB e = true
  · rw [if_pos h, if_pos h, amt_keep hy, if_neg (fun k => kBal_ne_kSup _ _ _ k.symm)]
  · rw [if_neg h, if_neg h]
theorem supM_keep_sup (hy : y.ok) (hd : denomB d = true) : supM (keepL (kSup d) y R) e = if e = d then y else supM R e := by
  unfold supM
  rw [amt_keep hy]
  by_cases h : e = d
  · subst h; simp [hd]
  · rw [if_neg h, if_neg (fun k => h (kSup_inj k))]
theorem balM_keep_bal (hy : y.ok) (ha : identB a = true) (hd : denomB d = true) : balM (keepL (kBal a d) y R) c e = if c = a ∧ e = d then y else balM R c e := by
  unfold balM
  by_cases h : (identB c && denomB e) = true
  · rw [if_pos h, if_pos h, amt_keep hy]
    by_cases h2 : c = a ∧ e = d
    · rw [if_pos h2, if_pos (by rw [h2.1, h2.2])]
    · rw [if_neg h2, if_neg (fun k => h2 (kBal_inj (by simp only [Bool.and_eq_true] at h; exact h.1) ha k))]
  · rw [if_neg h, if_neg h]
    by_cases h2 : c = a ∧ e = d
    · rw [h2.1, h2.2, ha, hd] at h
      exact absurd rfl h
    · rw [if_neg h2]
/-- what a transfer that is done does -/
theorem send_yes (h : (sendM R a b d x).1 = 0) (hne : a ≠ b) : identB a = true ∧ identB b = true ∧ denomB d = true ∧ (subU (balM R a d) x).2 = true ∧ (addU (balM R b d) x).2 = true ∧
    (sendM R a b d x).2 = keepL (kBal b d) (addU (balM R b d) x).1 (keepL (kBal a d) (subU (balM R a d) x).1 R) := by
  unfold sendM at h ⊢
  by_cases h1 : rightM a d x = 0
  · obtain ⟨q1, q2, q3⟩ := rightM_zero h1
    rw [if_pos h1] at h ⊢
    by_cases h2 : identB b = true
    · rw [if_pos h2] at h ⊢
      by_cases h3 : (subU (balM R a d) x).2 = true
      · rw [if_pos h3, if_neg hne] at h ⊢
        by_cases h4 : (addU (balM R b d) x).2 = true
        · rw [if_pos h4] at h ⊢
          exact ⟨q1, h2, q2, h3, h4, rfl⟩
        · rw [if_neg h4] at h; cases h
      · rw [if_neg h3] at h; cases h
    · rw [if_neg h2] at h; cases h
  · rw [if_neg h1] at h; exact absurd h h1
theorem change_yes (h : (changeM op u R a d x).1 = 0) (hu : u ≠ 0) : identB a = true ∧ denomB d = true ∧ eqB x U4.zero = false ∧ (op (supM R d) x).2 = true ∧ (op (balM R a d) x).2 = true ∧
    (changeM op u R a d x).2 = keepL (kBal a d) (op (balM R a d) x).1 (keepL (kSup d) (op (supM R d) x).1 R) := by
  unfold changeM at h ⊢
  by_cases h1 : rightM a d x = 0
  · obtain ⟨q1, q2, q3⟩ := rightM_zero h1
    rw [if_pos h1] at h ⊢
    by_cases h2 : ((op (supM R d) x).2 && (op (balM R a d) x).2) = true
    · rw [if_pos h2] at h ⊢
      simp only [Bool.and_eq_true] at h2
      exact ⟨q1, q2, q3, h2.1, h2.2, rfl⟩
    · rw [if_neg h2] at h; exact absurd h hu
  · rw [if_neg h1] at h; exact absurd h h1
end

/-! ### a key put into a list in order, as a permutation -/
theorem putG_perm (c : Chn) (v : List UInt8) (hv : c.2.getD [] = v) : ∀ (l : List Pr), (putG c false l).Perm ((c.1, v) :: l.filter (fun p => !decide (p.1 = c.1)))
  | [] => by simp [putG, hv]
  | p :: l => by
    unfold putG
    cases hl : ltS p.1 c.1 with
    | true =>
      have hne := ltS_ne hl
      simp only [hne, Bool.not_true, Bool.and_false, Bool.or_false, if_false, Bool.false_eq_true, List.nil_append, List.singleton_append]
      rw [List.filter_cons_of_pos (by simp [hne])]
      exact ((putG_perm c v hv l).cons p).trans (List.Perm.swap _ _ _)
    | false =>
      simp only [Bool.not_false, Bool.and_true, Bool.or_true, if_true, List.singleton_append, List.cons_append]
      rw [putG_true, hv]
      by_cases e : p.1 = c.1
      · rw [if_pos e, List.filter_cons_of_neg (by simp [e])]; exact List.Perm.refl _
      · rw [if_neg e, List.filter_cons_of_pos (by simp [e])]; exact List.Perm.refl _
theorem putL_perm (key : ByteArray) (o : Option (List UInt8)) (l : List Pr) : (putL (key, o) l).Perm ((match o with | none => [] | some v => [(key, v)]) ++ l.filter (fun p => !decide (p.1 = key))) := by
  unfold putL
  cases o with
  | none => simp only [Option.isNone_none]; rw [putG_true]; exact List.Perm.refl _
  | some v => exact putG_perm (key, some v) v rfl l
theorem Rise.perm {l : List Pr} (h : Rise l) (key : ByteArray) : l.Perm ((match getL l key with | none => [] | some v => [(key, v)]) ++ l.filter (fun p => !decide (p.1 = key))) := by
  have h1 : putL (key, getL l key) l = l := by
    refine (h.put _).ext h fun s => ?_
    rw [getL_putL]
    by_cases e : s = key
    · rw [if_pos e, e]
    · rw [if_neg e]
  have h2 := putL_perm key (getL l key) l
  rw [h1] at h2
  exact h2

/-! ### sums -/
/-- the sum of the numbers under the keys that f takes -/
def sumF (f : ByteArray → Bool) (l : List Pr) : Nat := ((l.filter (fun p => f p.1)).map (fun p => (fromU p.2).1.nat)).sum
def oneF (f : ByteArray → Bool) (key : ByteArray) (o : Option (List UInt8)) : Nat := match o with | none => 0 | some v => if f key = true then (fromU v).1.nat else 0
theorem sum_permN {l l' : List Nat} (h : l.Perm l') : l.sum = l'.sum := by
  induction h with
  | nil => rfl
  | cons x _ ih => simp [ih]
  | swap x y l => simp only [List.sum_cons]; omega
  | trans _ _ ih1 ih2 => exact ih1.trans ih2
theorem sumF_perm {f : ByteArray → Bool} {l l' : List Pr} (h : l.Perm l') : sumF f l = sumF f l' := sum_permN ((h.filter _).map _)
theorem sumF_append (f : ByteArray → Bool) (l l' : List Pr) : sumF f (l ++ l') = sumF f l + sumF f l' := by simp [sumF]
theorem sumF_one (f : ByteArray → Bool) (key : ByteArray) (o : Option (List UInt8)) : sumF f (match o with | none => [] | some v => [(key, v)]) = oneF f key o := by
  cases o with
  | none => rfl
  | some v =>
    unfold sumF oneF
    by_cases h : f key = true <;> simp [h]
/-- what a key's change does to a sum -/
theorem sumF_put {f : ByteArray → Bool} {l : List Pr} (h : Rise l) (key : ByteArray) (o : Option (List UInt8)) : sumF f (putL (key, o) l) + oneF f key (getL l key) = sumF f l + oneF f key o := by
  have h1 := sumF_perm (f := f) (putL_perm key o l)
  have h2 := sumF_perm (f := f) (h.perm key)
  rw [sumF_append, sumF_one] at h1 h2
  omega
theorem oneF_amt (f : ByteArray → Bool) (l : List Pr) (key : ByteArray) : oneF f key (getL l key) = if f key = true then (amtU l key).nat else 0 := by
  unfold amtU
  cases getL l key with
  | none =>
    show 0 = _
    split
    · rfl
    · rfl
  | some v => rfl
theorem sumF_keep {f : ByteArray → Bool} {l : List Pr} (h : Rise l) (key : ByteArray) {x : U4} (hx : x.ok) : sumF f (keepL key x l) + (if f key = true then (amtU l key).nat else 0) = sumF f l + (if f key = true then x.nat else 0) := by
  have h1 := sumF_put (f := f) h key (if eqB x U4.zero = true then none else some (be x.nat 32))
  rw [oneF_amt] at h1
  unfold keepL
  rw [h1]
  congr 1
  by_cases h0 : eqB x U4.zero = true
  · rw [if_pos h0, eqB_iff.1 h0]
    show 0 = _
    split <;> rfl
  · rw [if_neg h0]
    show (if f key = true then (fromU (be x.nat 32)).1.nat else 0) = _
    rw [fromU_be hx]

/-! ### what the bank alone has written -/
/-- each value is the 32 bytes of a number that is not 0 -/
def CanonL (l : List Pr) : Prop := ∀ p ∈ l, ∃ x : U4, x.ok ∧ eqB x U4.zero = false ∧ p.2 = be x.nat 32
theorem CanonL.keep {l : List Pr} (h : CanonL l) (key : ByteArray) {x : U4} (hx : x.ok) : CanonL (keepL key x l) := by
  intro p hp
  unfold keepL at hp
  have hp2 := (putL_perm key _ l).mem_iff.1 hp
  rcases List.mem_append.1 hp2 with hp | hp
  · by_cases h0 : eqB x U4.zero = true
    · rw [if_pos h0] at hp; cases hp
    · rw [if_neg h0] at hp
      rw [List.mem_singleton.1 hp]
      exact ⟨x, hx, by simpa using h0, rfl⟩
  · exact h p (List.mem_filter.1 hp).1
/-- an amount kept again where it was -/
theorem keep_same {l : List Pr} (h : Rise l) (hc : CanonL l) (key : ByteArray) : keepL key (amtU l key) l = l := by
  refine h.keep.ext h fun s => ?_
  rw [getL_keep]
  by_cases e : s = key
  · subst e
    rw [if_pos rfl]
    unfold amtU
    cases hg : getL l s with
    | none =>
      have : (fromU ((none : Option (List UInt8)).getD [])).1 = U4.zero := rfl
      rw [this, if_pos (eqB_refl _)]
    | some v =>
      obtain ⟨x, hx, h0, hv⟩ := hc _ (getL_mem hg)
      dsimp only at hv
      subst hv
      show (if eqB (fromU (be x.nat 32)).1 U4.zero = true then none else some (be (fromU (be x.nat 32)).1.nat 32)) = _
      rw [fromU_be hx]
      dsimp only
      rw [if_neg (by simp [h0])]
  · rw [if_neg e]
/-- kept twice under one key: the later counts -/
theorem keep_keep {l : List Pr} (h : Rise l) (key : ByteArray) (x y : U4) : keepL key y (keepL key x l) = keepL key y l := by
  refine h.keep.keep.ext h.keep fun s => ?_
  rw [getL_keep, getL_keep, getL_keep]
  by_cases e : s = key <;> simp [e]
theorem keep_swap {l : List Pr} (h : Rise l) {k1 k2 : ByteArray} (hne : k1 ≠ k2) (x y : U4) : keepL k1 x (keepL k2 y l) = keepL k2 y (keepL k1 x l) := by
  refine h.keep.keep.ext h.keep.keep fun s => ?_
  rw [getL_keep, getL_keep, getL_keep, getL_keep]
  by_cases e : s = k1
  · subst e
    rw [if_pos rfl, if_neg hne, if_pos rfl]
  · rw [if_neg e, if_neg e]
theorem addU_yes {x y : U4} (h : (addU x y).2 = true) : (addU x y).1.nat = x.nat + y.nat ∧ (addU x y).1.ok := by
  unfold addU at h ⊢
  split
  · next h1 => exact ⟨nat_ofN h1, ofN_ok _⟩
  · next h1 => rw [if_neg h1] at h; cases h
theorem subU_yes {x y : U4} (h : (subU x y).2 = true) (hx : x.ok) : (subU x y).1.nat + y.nat = x.nat ∧ (subU x y).1.ok := by
  unfold subU at h ⊢
  split
  · next h1 =>
    refine ⟨?_, ofN_ok _⟩
    show (ofN (x.nat - y.nat)).nat + y.nat = x.nat
    rw [nat_ofN (by have := nat_lt hx; omega)]
    omega
  · next h1 => rw [if_neg h1] at h; cases h
/-- what was added is taken away again -/
theorem sub_add {x y : U4} (hx : x.ok) (h : (addU x y).2 = true) : subU (addU x y).1 y = (x, true) := by
  obtain ⟨h1, h2⟩ := addU_yes h
  unfold subU
  rw [h1, if_pos (by omega), show x.nat + y.nat - y.nat = x.nat by omega, ofN_nat hx]
/-- minted and burnt again: all is as it was -/
theorem burn_mint {R : List Pr} {a d : ByteArray} {x : U4} (h : Rise R) (hc : CanonL R) (hm : (mintM R a d x).1 = 0) : burnM (mintM R a d x).2 a d x = (0, R) := by
  obtain ⟨q1, q2, q3, q4, q5, q6⟩ := change_yes (op := addU) (u := 10) hm (by decide)
  have hr : rightM a d x = 0 := by unfold rightM; rw [if_pos q1, if_pos q2, q3]; rfl
  have hs := addU_yes q4
  have hb := addU_yes q5
  show changeM subU 71 (changeM addU 10 R a d x).2 a d x = _
  rw [q6]
  have hS : supM (keepL (kBal a d) (addU (balM R a d) x).1 (keepL (kSup d) (addU (supM R d) x).1 R)) d = (addU (supM R d) x).1 := by rw [supM_keep_bal hb.2, supM_keep_sup hs.2 q2, if_pos rfl]
  have hB : balM (keepL (kBal a d) (addU (balM R a d) x).1 (keepL (kSup d) (addU (supM R d) x).1 R)) a d = (addU (balM R a d) x).1 := by rw [balM_keep_bal hb.2 q1 q2, if_pos ⟨rfl, rfl⟩]
  unfold changeM
  rw [if_pos hr, hS, hB, sub_add (supM_ok R d) q4, sub_add (balM_ok R a d) q5]
  have e1 : supM R d = amtU R (kSup d) := by unfold supM; rw [if_pos q2]
  have e2 : balM R a d = amtU R (kBal a d) := by unfold balM; rw [q1, q2]; rfl
  have hne := kBal_ne_kSup a d d
  have k1 : ∀ s, getL (keepL (kSup d) (amtU R (kSup d)) R) s = getL R s := fun s => by rw [keep_same h hc]
  have k2 : ∀ s, getL (keepL (kBal a d) (amtU R (kBal a d)) R) s = getL R s := fun s => by rw [keep_same h hc]
  show ((0 : Int), _) = (0, R)
  congr 1
  refine h.keep.keep.keep.keep.ext h fun s => ?_
  have k1s := k1 s
  have k2s := k2 s
  rw [getL_keep] at k1s k2s
  rw [getL_keep, getL_keep, getL_keep, getL_keep]
  dsimp only
  rw [e1, e2]
  by_cases c1 : s = kBal a d
  · rw [if_pos c1] at k2s
    rw [if_pos c1]; exact k2s
  · rw [if_neg c1]
    by_cases c2 : s = kSup d
    · rw [if_pos c2] at k1s
      rw [if_pos c2]; exact k1s
    · rw [if_neg c2, if_neg c1, if_neg c2]
end Go.Proofs.YtmphegeiclgjbaaGreatDoor
