
/- The pool has just what is paid ahead: mathematics. What the document's fresh store has of the pool, minted: mathematics. The law's walk of the pool: what is paid ahead, minted anew by the document's bank, is what the pool has. The law: the pool has just what is paid ahead and not settled. -/
import Derived.Test.YtaafaaoioleokaaGreatDoorFeeH2
import Derived.Test.YtaafaaoioleokaaGreatDoorBankH0
import Derived.Test.YtaafaaoioleokaaGreatDoorSto2
import Derived.Test.YtaafaaoioleokaaGreatDoorRBankC1
import Derived.Test.YtaafaaoioleokaaGreatDoorHeldBy
import Derived.Deep.MidRow
namespace Go.Proofs.YtaafaaoioleokaaGreatDoor
set_option maxRecDepth 100000
open Go Go.RowKit
set_option linter.unusedVariables false

def poolP : ByteArray := ⟨#[98, 97, 108, 47, 102, 101, 101, 112, 111, 111, 108, 47]⟩
theorem begB_iff (p s : ByteArray) : begB p s = true ↔ ∃ r, s.data.toList = p.data.toList ++ r := by
  unfold begB
  simp only [Lib.hasPrefix]
  rw [List.isPrefixOf_iff_prefix]
  constructor
  · rintro ⟨t, ht⟩; exact ⟨t, ht.symm⟩
  · rintro ⟨t, ht⟩; exact ⟨t, ht.symm⟩
theorem fee_bal (a d : ByteArray) : begB feeP (kBal a d) = false := by
  unfold begB
  rw [kBal_list]
  simp [Lib.hasPrefix, feeP]
  rfl
theorem fee_fee (a : ByteArray) (n : Nat) : begB feeP (kFee a n) = true := by
  rw [begB_iff]
  unfold kFee
  rw [data_list, data_list, data_list]
  exact ⟨_, by rw [List.append_assoc, List.append_assoc]⟩
theorem fee_commit (a : ByteArray) (n : Nat) : begB feeP (kPl wCommit a n) = false := by
  unfold begB kPl
  rw [data_list, data_list, data_list, data_list, data_list]
  simp [Lib.hasPrefix, feeP, ibcS]
  rfl
theorem pool_fee (a : ByteArray) (n : Nat) : begB poolP (kFee a n) = false := by
  unfold begB kFee
  rw [data_list, data_list, data_list]
  simp [Lib.hasPrefix, feeP, poolP]
  rfl
theorem pool_commit (a : ByteArray) (n : Nat) : begB poolP (kPl wCommit a n) = false := by
  unfold begB kPl
  rw [data_list, data_list, data_list, data_list, data_list]
  simp [Lib.hasPrefix, poolP, ibcS]
  rfl
theorem pool_sup (d : ByteArray) : begB poolP (kSup d) = false := by
  unfold begB
  rw [kSup_list]
  simp [Lib.hasPrefix, poolP]
  rfl
theorem poolP_list : poolP.data.toList = [98, 97, 108, 47] ++ (poolS.data.toList ++ [47]) := by decide +kernel
theorem pool_no47 : (47 : UInt8) ∉ poolS.data.toList := by decide +kernel
theorem pool_self (d : ByteArray) : begB poolP (kBal poolS d) = true := by
  rw [begB_iff, kBal_list, poolP_list]
  exact ⟨d.data.toList, by simp⟩
theorem pool_only {a d : ByteArray} (ha : identB a = true) (h : begB poolP (kBal a d) = true) : a = poolS := by
  rw [begB_iff] at h
  obtain ⟨r, hr⟩ := h
  rw [kBal_list, poolP_list, List.append_assoc] at hr
  have h2 := List.append_cancel_left hr
  rw [List.append_assoc] at h2
  exact bytes_ext (cut47 (identL_no47 ha) pool_no47 h2).1
theorem memL {key : ByteArray} {o : Option (List UInt8)} {l : List Pr} {p : Pr} (h : p ∈ putL (key, o) l) : (∃ v, o = some v ∧ p = (key, v)) ∨ (p ∈ l ∧ p.1 ≠ key) := by
  rcases List.mem_append.1 ((putL_perm key o l).mem_iff.1 h) with h | h
  · cases o with
    | none => cases h
    | some v => exact Or.inl ⟨v, rfl, List.mem_singleton.1 h⟩
  · obtain ⟨h1, h2⟩ := List.mem_filter.1 h
    exact Or.inr ⟨h1, by simpa using h2⟩

/-! ### what is paid ahead of each denomination -/
def feeW (d : ByteArray) (b : List UInt8) : Nat := match readPd b with
  | some v => if v.dn = d then v.x.nat + v.y.nat + v.z.nat else 0
  | none => 0
def feesOf (R : List Pr) : List Pr := R.filter (fun p => begB feeP p.1)
def sumW (d : ByteArray) (L : List Pr) : Nat := (L.map fun p => feeW d p.2).sum
def wO (d : ByteArray) (o : Option (List UInt8)) : Nat := match o with
  | none => 0
  | some v => feeW d v
theorem sumW_perm {d : ByteArray} {l l' : List Pr} (h : l.Perm l') : sumW d (feesOf l) = sumW d (feesOf l') := sum_permN ((h.filter _).map _)
theorem sumW_append (d : ByteArray) (l l' : List Pr) : sumW d (feesOf (l ++ l')) = sumW d (feesOf l) + sumW d (feesOf l') := by simp [sumW, feesOf]
theorem sumW_put {l : List Pr} (h : Rise l) (d key : ByteArray) (hk : begB feeP key = true) (o : Option (List UInt8)) : sumW d (feesOf (putL (key, o) l)) + wO d (getL l key) = sumW d (feesOf l) + wO d o := by
  have h1 := sumW_perm (d := d) (putL_perm key o l)
  have h2 := sumW_perm (d := d) (h.perm key)
  rw [sumW_append] at h1 h2
  generalize getL l key = q at *
  generalize sumW d (feesOf (List.filter (fun p => !decide (p.1 = key)) l)) = N at *
  generalize sumW d (feesOf (putL (key, o) l)) = A at *
  generalize sumW d (feesOf l) = B at *
  cases o <;> cases q <;> simp [sumW, feesOf, wO, hk] at h1 h2 ⊢ <;> omega
theorem feeW_pdB {v : PdV} (hv : v.ok) (d : ByteArray) : feeW d (pdB v) = if v.dn = d then v.x.nat + v.y.nat + v.z.nat else 0 := by
  unfold feeW
  rw [readPd_pdB hv]

/-! ### the pool -/
/-- all that is kept of fees reads; the pool's balances are f -/
structure PoolG (R : List Pr) (f : ByteArray → Nat) : Prop where
  rise : Rise R
  fees : ∀ p ∈ R, begB feeP p.1 = true → ∃ v, readPd p.2 = some v ∧ denomB v.dn = true ∧ v.fr ≠ poolS
  bal : ∀ d, denomB d = true → (balM R poolS d).nat = f d
  can : ∀ p ∈ R, begB poolP p.1 = true → ∃ d x, denomB d = true ∧ p.1 = kBal poolS d ∧ x.ok ∧ eqB x U4.zero = false ∧ p.2 = be x.nat 32
section
variable {R : List Pr} {f : ByteArray → Nat} {a b d key : ByteArray} {x : U4}
/-- what is put elsewhere -/
theorem PoolG.other (h : PoolG R f) (o : Option (List UInt8)) (h1 : begB poolP key = false) (h2 : begB feeP key = true → ∀ u, o = some u → ∃ v, readPd u = some v ∧ denomB v.dn = true ∧ v.fr ≠ poolS) : PoolG (putL (key, o) R) f where
  rise := h.rise.put _
  fees := fun p hp hb => by
    rcases memL hp with ⟨v, hv, rfl⟩ | ⟨hp, -⟩
    · exact h2 hb v hv
    · exact h.fees p hp hb
  bal := fun d hd => by
    have e : amtU (putL (key, o) R) (kBal poolS d) = amtU R (kBal poolS d) := by
      unfold amtU
      rw [getL_putL, if_neg (fun (k : kBal poolS d = key) => by rw [← k, pool_self] at h1; cases h1)]
    rw [← h.bal d hd]
    unfold balM
    rw [e]
  can := fun p hp hb => by
    rcases memL hp with ⟨v, hv, rfl⟩ | ⟨hp, -⟩
    · rw [h1] at hb; cases hb
    · exact h.can p hp hb
theorem PoolG.keep (h : PoolG R f) (ha : identB a = true) (hd : denomB d = true) (hx : x.ok) {g : ByteArray → Nat} (hg : ∀ e, g e = if a = poolS ∧ e = d then x.nat else f e) : PoolG (keepL (kBal a d) x R) g where
  rise := h.rise.keep
  fees := fun p hp hb => by
    unfold keepL at hp
    rcases memL hp with ⟨v, hv, rfl⟩ | ⟨hp, -⟩
    · rw [fee_bal] at hb; cases hb
    · exact h.fees p hp hb
  bal := fun e he => by
    rw [balM_keep_bal hx ha hd, hg]
    by_cases c : a = poolS ∧ e = d
    · rw [if_pos c, if_pos ⟨c.1.symm, c.2⟩]
    · rw [if_neg c, if_neg (fun k => c ⟨k.1.symm, k.2⟩)]
      exact h.bal e he
  can := fun p hp hb => by
    unfold keepL at hp
    rcases memL hp with ⟨v, hv, rfl⟩ | ⟨hp, -⟩
    · have e := pool_only ha hb
      subst e
      by_cases hz : eqB x U4.zero = true
      · rw [if_pos hz] at hv; cases hv
      · rw [if_neg hz] at hv
        injection hv with hv
        exact ⟨d, x, hd, rfl, hx, by simpa using hz, hv.symm⟩
    · exact h.can p hp hb
/-- a send into the pool -/
theorem PoolG.into (h : PoolG R f) (hs : (sendM R a poolS d x).1 = 0) (hne : a ≠ poolS) : PoolG (sendM R a poolS d x).2 (fun e => if e = d then f e + x.nat else f e) := by
  obtain ⟨q1, q2, q3, q4, q5, q6⟩ := send_yes hs hne
  rw [q6]
  have k1 := subU_yes q4 (balM_ok R a d)
  have k2 := addU_yes q5
  refine PoolG.keep (f := f) (h.keep q1 q3 k1.2 (g := f) fun e => ?_) q2 q3 k2.2 fun e => ?_
  · rw [if_neg (fun k => hne k.1)]
  · by_cases c : e = d
    · subst c
      rw [if_pos rfl, if_pos ⟨rfl, rfl⟩, k2.1, h.bal e q3]
    · rw [if_neg c, if_neg (fun k => c k.2)]
/-- a send out of the pool -/
theorem PoolG.out (h : PoolG R f) (hs : (sendM R poolS b d x).1 = 0) (hne : b ≠ poolS) : x.nat ≤ f d ∧ PoolG (sendM R poolS b d x).2 (fun e => if e = d then f e - x.nat else f e) := by
  obtain ⟨q1, q2, q3, q4, q5, q6⟩ := send_yes hs (fun k => hne k.symm)
  rw [q6]
  have k1 := subU_yes q4 (balM_ok R poolS d)
  have k2 := addU_yes q5
  have hb := h.bal d q3
  refine ⟨by omega, ?_⟩
  refine PoolG.keep (f := fun e => if e = d then f e - x.nat else f e) (h.keep q1 q3 k1.2 fun e => ?_) q2 q3 k2.2 fun e => ?_
  · by_cases c : e = d
    · subst c
      rw [if_pos rfl, if_pos ⟨rfl, rfl⟩]
      omega
    · rw [if_neg c, if_neg (fun k => c k.2)]
  · rw [if_neg (show ¬ (b = poolS ∧ e = d) from fun k => hne k.1)]
end
theorem fees_send {R : List Pr} (h : Rise R) (a b d : ByteArray) (x : U4) : feesOf (sendM R a b d x).2 = feesOf R := by
  unfold feesOf sendM
  split
  · split
    · split
      · split
        · rfl
        · split
          · unfold keepL
            rw [putL_filter (h.put _) _ _ _ (fee_bal _ _), putL_filter h _ _ _ (fee_bal _ _)]
          · rfl
      · rfl
    · rfl
  · rfl
/-- the pool has just what is paid ahead -/
def PoolI (R : List Pr) : Prop := PoolG R (fun d => sumW d (feesOf R))
theorem PoolI.commit {R : List Pr} (h : PoolI R) (a : ByteArray) (n : Nat) (v : List UInt8) : PoolI (setL (kPl wCommit a n) v R) := by
  unfold setL
  split
  · have h2 := PoolG.other h (key := kPl wCommit a n) (some v) (pool_commit a n) (fun e => by rw [fee_commit] at e; cases e)
    unfold PoolI
    have e : feesOf (putL (kPl wCommit a n, some v) R) = feesOf R := putL_filter h.rise _ _ _ (fee_commit a n)
    rw [e]
    exact h2
  · exact h
theorem totFee_nat {v : PdV} (h : (totFee v).2 = true) : (totFee v).1.nat = v.x.nat + v.y.nat + v.z.nat := by
  unfold totFee at h ⊢
  split
  · next h1 =>
    rw [if_pos h1] at h
    rw [(addU_yes h).1, (addU_yes h1).1]
  · next h1 => rw [if_neg h1] at h; cases h
theorem PoolI.ahead {R : List Pr} (h : PoolI R) {id : ByteArray} {n : Nat} {v : PdV} (hv : v.x.ok ∧ v.y.ok ∧ v.z.ok) (hne : v.fr ≠ poolS) : PoolI (aheadM R id n v).2 := by
  unfold aheadM
  split
  · split
    · split
      · exact h
      · next h3 =>
        split
        · next h4 =>
          split
          · next h5 =>
            obtain ⟨r1, r2, -⟩ := send_right h5
            have hok : v.ok := ⟨hv.1, hv.2.1, hv.2.2, by have := identB_size r1; omega, by have := denomB_size r2; omega⟩
            have h6 := PoolG.into h h5 hne
            have h7 := h6.other (key := kFee id n) (some (pdB v)) (pool_fee id n) (fun _ u hu => by
              injection hu with hu
              subst hu
              exact ⟨v, readPd_pdB hok, r2, hne⟩)
            unfold PoolI
            have hs : ∀ d, sumW d (feesOf (putL (kFee id n, some (pdB v)) (sendM R v.fr poolS v.dn (totFee v).1).2)) = (if d = v.dn then sumW d (feesOf R) + (totFee v).1.nat else sumW d (feesOf R)) := by
              intro d
              have e := sumW_put h6.rise d (kFee id n) (fee_fee id n) (some (pdB v))
              have hg : getL (sendM R v.fr poolS v.dn (totFee v).1).2 (kFee id n) = getL R (kFee id n) := by
                have e1 := getL_filter (sendM R v.fr poolS v.dn (totFee v).1).2 (begB feeP) (kFee id n)
                have e2 := getL_filter R (begB feeP) (kFee id n)
                rw [fee_fee, if_pos rfl] at e1 e2
                have e3 := fees_send h.rise v.fr poolS v.dn (totFee v).1
                unfold feesOf at e3
                rw [← e1, ← e2, e3]
              have hno : getL R (kFee id n) = none := by simpa using h3
              rw [hg, hno, fees_send h.rise] at e
              show _ = _
              have e4 : wO d (some (pdB v)) = if v.dn = d then v.x.nat + v.y.nat + v.z.nat else 0 := feeW_pdB hok d
              have e5 : wO d none = 0 := rfl
              rw [e4, e5, ← totFee_nat h4] at e
              by_cases c : d = v.dn
              · rw [if_pos c]; rw [if_pos c.symm] at e; omega
              · rw [if_neg c]; rw [if_neg (fun k => c k.symm)] at e; omega
            have hf : (fun d => sumW d (feesOf (putL (kFee id n, some (pdB v)) (sendM R v.fr poolS v.dn (totFee v).1).2))) = (fun e => if e = v.dn then sumW e (feesOf R) + (totFee v).1.nat else sumW e (feesOf R)) := funext hs
            rw [hf]
            exact h7
          · exact h
        · exact h
    · exact h
  · exact h
theorem PoolG.give {R : List Pr} {f : ByteArray → Nat} (h : PoolG R f) {v : PdV} {to : ByteArray} {x : U4} (ho : (giveM R v to x).1 = 0) (h1 : to ≠ poolS) (h2 : v.fr ≠ poolS) : x.nat ≤ f v.dn ∧ PoolG (giveM R v to x).2 (fun e => if e = v.dn then f e - x.nat else f e) ∧ feesOf (giveM R v to x).2 = feesOf R := by
  unfold giveM at ho ⊢
  split
  · next hz =>
    have hx : x.nat = 0 := by rw [eqB_iff.1 hz]; rfl
    refine ⟨by omega, ?_, rfl⟩
    have e : (fun e => if e = v.dn then f e - x.nat else f e) = f := funext fun e => by
      split
      · omega
      · rfl
    rw [e]
    exact h
  · next hz =>
    rw [if_neg hz] at ho
    have hne : (if identB to = true then to else v.fr) ≠ poolS := by
      split
      · exact h1
      · exact h2
    obtain ⟨q1, q2⟩ := h.out ho hne
    exact ⟨q1, q2, fees_send h.rise _ _ _ _⟩
theorem PoolG.gives {v : PdV} (h2 : v.fr ≠ poolS) : ∀ (gl : List (ByteArray × U4)) {R : List Pr} {f : ByteArray → Nat}, PoolG R f → (∀ g ∈ gl, g.1 ≠ poolS) → (givesM v gl R).1 = 0 →
    PoolG (givesM v gl R).2 (fun e => if e = v.dn then f e - (gl.map fun g => g.2.nat).sum else f e) ∧ (gl.map fun g => g.2.nat).sum ≤ f v.dn ∧ feesOf (givesM v gl R).2 = feesOf R
  | [], R, f, h, _, _ => by
    refine ⟨?_, by simp, rfl⟩
    have e : (fun e => if e = v.dn then f e - (([] : List (ByteArray × U4)).map fun g => g.2.nat).sum else f e) = f := funext fun e => by simp
    rw [e]
    exact h
  | g :: gl, R, f, h, hg, ho => by
    unfold givesM at ho ⊢
    by_cases hz : (giveM R v g.1 g.2).1 = 0
    · rw [if_pos hz] at ho ⊢
      obtain ⟨q1, q2, q3⟩ := h.give hz (hg g (by simp)) h2
      obtain ⟨r1, r2, r3⟩ := PoolG.gives h2 gl q2 (fun k hk => hg k (by simp [hk])) ho
      rw [if_pos rfl] at r2
      refine ⟨?_, by simp only [List.map_cons, List.sum_cons]; omega, r3.trans q3⟩
      have e : (fun e => if e = v.dn then (if e = v.dn then f e - g.2.nat else f e) - (gl.map fun g => g.2.nat).sum else if e = v.dn then f e - g.2.nat else f e) = (fun e => if e = v.dn then f e - ((g :: gl).map fun g => g.2.nat).sum else f e) := funext fun e => by
        by_cases c : e = v.dn
        · simp only [if_pos c, List.map_cons, List.sum_cons]; omega
        · simp only [if_neg c]
      rw [e] at r1
      exact r1
    · rw [if_neg hz] at ho; exact absurd ho hz
theorem PoolI.settle {R : List Pr} (h : PoolI R) {id : ByteArray} {n : Nat} {fw by_ : ByteArray} {late : Bool} (h1 : fw ≠ poolS) (h2 : by_ ≠ poolS) : PoolI (settleM R id n fw by_ late).2 := by
  unfold settleM
  cases hg : getPd R id n with
  | none => exact h
  | some v =>
    dsimp only
    split
    · next ho =>
      obtain ⟨u, hu, hru⟩ : ∃ u, getL R (kFee id n) = some u ∧ readPd u = some v := by
        unfold getPd at hg
        cases e : getL R (kFee id n) with
        | none => rw [e] at hg; cases hg
        | some u => rw [e] at hg; exact ⟨u, rfl, hg⟩
      have hfr : v.fr ≠ poolS := by
        obtain ⟨v', e1, -, e3⟩ := PoolG.fees h _ (getL_mem hu) (fee_fee id n)
        have e2 : readPd u = some v' := e1
        rw [hru] at e2
        injection e2 with e2
        rw [e2]
        exact e3
      have hgl : ∀ g ∈ giftsM v fw by_ late, g.1 ≠ poolS := by
        unfold giftsM
        intro g hg
        split at hg <;> simp only [List.mem_cons, List.not_mem_nil, or_false] at hg <;> rcases hg with rfl | rfl | rfl <;> assumption
      have hsum : ((giftsM v fw by_ late).map fun g => g.2.nat).sum = v.x.nat + v.y.nat + v.z.nat := by
        unfold giftsM
        split <;> simp <;> omega
      obtain ⟨r1, r2, r3⟩ := PoolG.gives hfr (giftsM v fw by_ late) h hgl ho
      rw [hsum] at r1 r2
      have r4 := r1.other (key := kFee id n) none (pool_fee id n) (fun _ u hu => by cases hu)
      unfold PoolI
      have hf : (fun d => sumW d (feesOf (putL (kFee id n, none) (givesM v (giftsM v fw by_ late) R).2))) = (fun e => if e = v.dn then sumW e (feesOf R) - (v.x.nat + v.y.nat + v.z.nat) else sumW e (feesOf R)) := funext fun d => by
        have e := sumW_put r1.rise d (kFee id n) (fee_fee id n) none
        have hgx : getL (givesM v (giftsM v fw by_ late) R).2 (kFee id n) = some u := by
          have e1 := getL_filter (givesM v (giftsM v fw by_ late) R).2 (begB feeP) (kFee id n)
          have e2 := getL_filter R (begB feeP) (kFee id n)
          rw [fee_fee, if_pos rfl] at e1 e2
          unfold feesOf at r3
          rw [← e1, r3, e2, hu]
        rw [hgx, r3] at e
        have e4 : wO d (some u) = if v.dn = d then v.x.nat + v.y.nat + v.z.nat else 0 := by
          show feeW d u = _
          unfold feeW
          rw [hru]
        have e5 : wO d none = 0 := rfl
        rw [e4, e5] at e
        by_cases c : d = v.dn
        · rw [if_pos c]; rw [if_pos c.symm] at e; omega
        · rw [if_neg c]; rw [if_neg (fun k => c k.symm)] at e; omega
      rw [hf]
      exact r4
    · exact h
end Go.Proofs.YtaafaaoioleokaaGreatDoor
namespace Go.Proofs.YtaafaaoioleokaaGreatDoor
set_option maxRecDepth 100000
open Go Go.RowKit
set_option linter.unusedVariables false

theorem fee_sup (d : ByteArray) : begB feeP (kSup d) = false := by
  unfold begB
  rw [kSup_list]
  simp [Lib.hasPrefix, feeP]
  rfl
theorem poolS_ident : identB poolS = true := by decide +kernel
theorem nat_zeroI {x : U4} (hx : x.ok) (h : x.nat = 0) : x = U4.zero := nat_inj hx zero_ok (by rw [h, zero_nat])
section
variable {R T : List Pr} {f : ByteArray → Nat} {d : ByteArray} {x : U4}
theorem balM_pool (hd : denomB d = true) : balM R poolS d = amtU R (kBal poolS d) := by
  unfold balM
  rw [poolS_ident, hd]
  rfl
/-- under the pool's keys lies what f says -/
theorem PoolG.get (h : PoolG R f) (hd : denomB d = true) : getL R (kBal poolS d) = if f d = 0 then none else some (be (f d) 32) := by
  have hb := h.bal d hd
  rw [balM_pool hd] at hb
  cases hg : getL R (kBal poolS d) with
  | none =>
    have e : amtU R (kBal poolS d) = (fromU []).1 := by unfold amtU; rw [hg]; rfl
    have e2 : (fromU []).1.nat = 0 := by decide +kernel
    rw [e, e2] at hb
    rw [if_pos hb.symm]
  | some u =>
    obtain ⟨d', x, h1, h2, h3, h4, h5⟩ := h.can _ (getL_mem hg) (pool_self d)
    have e2 : u = be x.nat 32 := h5
    have e3 : amtU R (kBal poolS d) = x := by
      unfold amtU
      rw [hg]
      show (fromU u).1 = x
      rw [e2, fromU_be h3]
    rw [e3] at hb
    rw [e2, hb, if_neg]
    intro k
    rw [k] at hb
    rw [nat_zeroI h3 hb] at h4
    exact absurd h4 (by decide)
theorem PoolG.none (h : PoolG R f) {s : ByteArray} (hs : begB poolP s = true) (hno : ∀ d, denomB d = true → s ≠ kBal poolS d) : getL R s = none := by
  cases hg : getL R s with
  | none => rfl
  | some u =>
    obtain ⟨d', x, h1, h2, -⟩ := h.can _ (getL_mem hg) hs
    exact absurd h2 (hno d' h1)
/-- the same amounts, the same pairs -/
theorem PoolG.same (h : PoolG R f) (h' : PoolG T f) : R.filter (fun p => begB poolP p.1) = T.filter (fun p => begB poolP p.1) := by
  refine (h.rise.filter _).ext (h'.rise.filter _) fun s => ?_
  rw [getL_filter, getL_filter]
  by_cases hs : begB poolP s = true
  · rw [if_pos hs, if_pos hs]
    by_cases hd : ∃ d, denomB d = true ∧ s = kBal poolS d
    · obtain ⟨d, hd, rfl⟩ := hd
      rw [h.get hd, h'.get hd]
    · have hno : ∀ d, denomB d = true → s ≠ kBal poolS d := fun d h1 h2 => hd ⟨d, h1, h2⟩
      rw [h.none hs hno, h'.none hs hno]
  · rw [if_neg hs, if_neg hs]
/-- the document's fresh store, minted into -/
structure PoolT (T : List Pr) (f : ByteArray → Nat) : Prop where
  g : PoolG T f
  s : ∀ d, denomB d = true → (supM T d).nat = f d
theorem PoolT.nil : PoolT [] (fun _ => 0) := by
  have e2 : (fromU []).1.nat = 0 := by decide +kernel
  refine ⟨⟨List.Pairwise.nil, fun p hp => (by cases hp), fun d hd => ?_, fun p hp => (by cases hp)⟩, fun d hd => ?_⟩
  · rw [balM_pool hd]
    exact e2
  · unfold supM
    rw [if_pos hd]
    exact e2
theorem addU_fit {x y : U4} (h : x.nat + y.nat < top) : (addU x y).2 = true := by unfold addU; rw [if_pos h]
theorem PoolT.mint (h : PoolT T f) (hd : denomB d = true) (hx : x.ok) (hz : eqB x U4.zero = false) (hb : f d + x.nat < top) : (mintM T poolS d x).1 = 0 ∧ PoolT (mintM T poolS d x).2 (fun e => if e = d then f e + x.nat else f e) := by
  have h1 := h.g.bal d hd
  have h2 := h.s d hd
  have a1 : (addU (supM T d) x).2 = true := addU_fit (by omega)
  have a2 : (addU (balM T poolS d) x).2 = true := addU_fit (by omega)
  have e : mintM T poolS d x = (0, keepL (kBal poolS d) (addU (balM T poolS d) x).1 (keepL (kSup d) (addU (supM T d) x).1 T)) := by
    unfold mintM changeM rightM
    simp only [poolS_ident, hd, hz, a1, a2, if_true, Bool.and_self, if_pos, if_neg, Bool.false_eq_true, if_false]
  rw [e]
  have k1 := Go.Proofs.YtaafaaoioleokaaGreatDoor.addU_yes a1
  have k2 := Go.Proofs.YtaafaaoioleokaaGreatDoor.addU_yes a2
  refine ⟨rfl, ⟨?_, fun e he => ?_⟩⟩
  · have g1 : PoolG (keepL (kSup d) (addU (supM T d) x).1 T) f := by
      unfold keepL
      exact h.g.other _ (pool_sup d) (fun k => by rw [fee_sup] at k; cases k)
    refine g1.keep poolS_ident hd k2.2 fun e => ?_
    by_cases c : e = d
    · subst c
      rw [if_pos rfl, if_pos ⟨rfl, rfl⟩, k2.1, h1]
    · rw [if_neg c, if_neg (fun k => c k.2)]
  · show (supM (keepL (kBal poolS d) (addU (balM T poolS d) x).1 (keepL (kSup d) (addU (supM T d) x).1 T)) e).nat = if e = d then f e + x.nat else f e
    rw [supM_keep_bal k2.2, supM_keep_sup k1.2 hd]
    by_cases c : e = d
    · subst c
      rw [if_pos rfl, if_pos rfl, k1.1, h2]
    · rw [if_neg c, if_neg c]
      exact h.s e he
/-- nothing paid, nothing in the pool -/
theorem PoolI.start (h : Rise R) (h1 : feesOf R = []) (h2 : R.filter (fun p => begB poolP p.1) = []) : PoolI R := by
  have hf : ∀ p ∈ R, begB feeP p.1 = true → False := fun p hp hb => by
    have : p ∈ feesOf R := List.mem_filter.2 ⟨hp, hb⟩
    rw [h1] at this; cases this
  have hp' : ∀ p ∈ R, begB poolP p.1 = true → False := fun p hp hb => by
    have : p ∈ R.filter (fun p => begB poolP p.1) := List.mem_filter.2 ⟨hp, hb⟩
    rw [h2] at this; cases this
  have e2 : (fromU []).1.nat = 0 := by decide +kernel
  refine ⟨h, fun p hp hb => (hf p hp hb).elim, fun d hd => ?_, fun p hp hb => (hp' p hp hb).elim⟩
  show (balM R poolS d).nat = sumW d (feesOf R)
  rw [h1, balM_pool hd]
  have : getL R (kBal poolS d) = none := by
    cases hg : getL R (kBal poolS d) with
    | none => rfl
    | some u => exact (hp' _ (getL_mem hg) (pool_self d)).elim
  unfold amtU
  rw [this]
  exact e2
end
/-! ### the walk's states -/
/-- one amount minted, where it isn't nothing -/
def putIn (d : ByteArray) (x : U4) (T : List Pr) : List Pr := if eqB x U4.zero = true then T else (mintM T poolS d x).2
theorem PoolT.put {T : List Pr} {f : ByteArray → Nat} (h : PoolT T f) {d : ByteArray} {x : U4} (hd : denomB d = true) (hx : x.ok) (hb : f d + x.nat < top) : (eqB x U4.zero = false → (mintM T poolS d x).1 = 0) ∧ PoolT (putIn d x T) (fun e => if e = d then f e + x.nat else f e) := by
  unfold putIn
  by_cases hz : eqB x U4.zero = true
  · rw [if_pos hz]
    refine ⟨fun k => (by rw [hz] at k; cases k), ?_⟩
    have : (fun e => if e = d then f e + x.nat else f e) = f := funext fun e => by
      rw [eqB_iff.1 hz, zero_nat]; simp
    rw [this]
    exact h
  · have hz' : eqB x U4.zero = false := by simpa using hz
    rw [if_neg hz]
    exact ⟨fun _ => (h.mint hd hx hz' hb).1, (h.mint hd hx hz' hb).2⟩
/-- the first k amounts of what is paid ahead -/
def amtsK (v : PdV) (k : Nat) : List U4 := [v.x, v.y, v.z].take k
def putK (v : PdV) : Nat → List Pr → List Pr
  | 0, T => T
  | 1, T => putIn v.dn v.x T
  | 2, T => putIn v.dn v.y (putIn v.dn v.x T)
  | _, T => putIn v.dn v.z (putIn v.dn v.y (putIn v.dn v.x T))
def sumK (v : PdV) : Nat → Nat
  | 0 => 0
  | 1 => v.x.nat
  | 2 => v.x.nat + v.y.nat
  | _ => v.x.nat + v.y.nat + v.z.nat
def amtK (v : PdV) : Nat → U4
  | 0 => v.x
  | 1 => v.y
  | _ => v.z
theorem putK_step (v : PdV) (T : List Pr) {k : Nat} (h : k < 3) : putK v (k + 1) T = putIn v.dn (amtK v k) (putK v k T) := by
  match k, h with
  | 0, _ => rfl
  | 1, _ => rfl
  | 2, _ => rfl
theorem sumK_step (v : PdV) {k : Nat} (h : k < 3) : sumK v (k + 1) = sumK v k + (amtK v k).nat := by
  match k, h with
  | 0, _ => show v.x.nat = 0 + v.x.nat; omega
  | 1, _ => rfl
  | 2, _ => rfl
theorem amtK_ok {v : PdV} (h : v.ok) (k : Nat) : (amtK v k).ok := by
  match k with
  | 0 => exact h.1
  | 1 => exact h.2.1
  | k + 2 => exact h.2.2.1
theorem PoolT.amt {T : List Pr} {f : ByteArray → Nat} {v : PdV} (hv : v.ok) (hd : denomB v.dn = true) (h : PoolT T f) (hb : f v.dn + (v.x.nat + v.y.nat + v.z.nat) < top) : ∀ k, k ≤ 3 → PoolT (putK v k T) (fun e => if e = v.dn then f e + sumK v k else f e) ∧ (k < 3 → eqB (amtK v k) U4.zero = false → (mintM (putK v k T) poolS v.dn (amtK v k)).1 = 0)
  | 0, _ => by
    have e : (fun e => if e = v.dn then f e + sumK v 0 else f e) = f := funext fun e => by show (if e = v.dn then f e + 0 else f e) = f e; simp
    rw [e]
    exact ⟨h, fun _ => (h.put hd hv.1 (by show f v.dn + v.x.nat < top; omega)).1⟩
  | k + 1, hk => by
    have ih := (PoolT.amt hv hd h hb k (by omega)).1
    have hs := sumK_step v (k := k) (by omega)
    have hle : ∀ j, sumK v j ≤ v.x.nat + v.y.nat + v.z.nat := fun j => by
      match j with
      | 0 => exact Nat.zero_le _
      | 1 => show v.x.nat ≤ _; omega
      | 2 => show v.x.nat + v.y.nat ≤ _; omega
      | j + 3 => exact Nat.le_refl _
    have h1 := (ih.put hd (amtK_ok hv k) (by rw [if_pos rfl]; have := hle (k + 1); omega)).2
    rw [← putK_step v T (by omega)] at h1
    have e : (fun e => if e = v.dn then (if e = v.dn then f e + sumK v k else f e) + (amtK v k).nat else (if e = v.dn then f e + sumK v k else f e)) = (fun e => if e = v.dn then f e + sumK v (k + 1) else f e) := funext fun e => by
      by_cases c : e = v.dn
      · simp only [if_pos c]; omega
      · simp only [if_neg c]
    rw [e] at h1
    refine ⟨h1, fun h3 => ?_⟩
    exact (h1.put hd (amtK_ok hv (k + 1)) (by rw [if_pos rfl]; have e1 := hle (k + 1 + 1); have e2 := sumK_step v (k := k + 1) h3; omega)).1
/-- all pairs, one behind the other -/
def putsL : List Pr → List Pr → List Pr
  | [], T => T
  | p :: L, T => putsL L (match readPd p.2 with | some v => putK v 3 T | none => T)
theorem putsL_snoc (p : Pr) : ∀ (L T : List Pr), putsL (L ++ [p]) T = (match readPd p.2 with | some v => putK v 3 (putsL L T) | none => putsL L T)
  | [], T => rfl
  | q :: L, T => by
    show putsL (L ++ [p]) _ = _
    rw [putsL_snoc p L]
    rfl
theorem sumW_snoc (d : ByteArray) (L : List Pr) (p : Pr) : sumW d (L ++ [p]) = sumW d L + feeW d p.2 := by simp [sumW]
theorem sumW_take_le (d : ByteArray) (L : List Pr) (k : Nat) : sumW d (L.take k) ≤ sumW d L := by
  have h : sumW d (L.take k) + sumW d (L.drop k) = sumW d L := by
    conv => rhs; rw [← List.take_append_drop k L]
    unfold sumW
    rw [List.map_append, List.sum_append]
  omega
theorem feeW_some {d : ByteArray} {u : List UInt8} {v : PdV} (h : readPd u = some v) : feeW d u = if v.dn = d then v.x.nat + v.y.nat + v.z.nat else 0 := by
  unfold feeW
  rw [h]
theorem PoolI.lt {R : List Pr} (h : PoolI R) {d : ByteArray} (hd : denomB d = true) : sumW d (feesOf R) < top := by
  have h1 := PoolG.bal h d hd
  have h2 := nat_lt (balM_ok R poolS d)
  have h3 : (balM R poolS d).nat = sumW d (feesOf R) := h1
  omega
/-- behind k pairs -/
theorem PoolI.walk {R : List Pr} (h : PoolI R) : ∀ k, k ≤ (feesOf R).length → PoolT (putsL ((feesOf R).take k) []) (fun d => sumW d ((feesOf R).take k))
  | 0, _ => by
    rw [List.take_zero]
    exact PoolT.nil
  | k + 1, hk => by
    have ih := PoolI.walk h k (by omega)
    have hp : (feesOf R)[k] ∈ feesOf R := List.getElem_mem (by omega)
    obtain ⟨v, e1, e2, -⟩ := PoolG.fees h _ (List.mem_filter.1 hp).1 (by simpa using (List.mem_filter.1 hp).2)
    have ht : (feesOf R).take (k + 1) = (feesOf R).take k ++ [(feesOf R)[k]] := by rw [List.take_append_getElem]
    have hle := sumW_take_le v.dn (feesOf R) (k + 1)
    have hlt := PoolI.lt h e2
    rw [ht, sumW_snoc, feeW_some e1, if_pos rfl] at hle
    have h1 := (PoolT.amt (readPd_ok e1) e2 ih (by show sumW v.dn _ + _ < top; omega) 3 (Nat.le_refl _)).1
    rw [ht, putsL_snoc, e1]
    have e : (fun d => sumW d ((feesOf R).take k ++ [(feesOf R)[k]])) = (fun e => if e = v.dn then sumW e ((feesOf R).take k) + sumK v 3 else sumW e ((feesOf R).take k)) := funext fun d => by
      rw [sumW_snoc, feeW_some e1]
      by_cases c : d = v.dn
      · rw [if_pos c, if_pos c.symm]; rfl
      · rw [if_neg c, if_neg (fun k => c k.symm)]; omega
    rw [e]
    exact h1
/-- each mint on the way is done -/
theorem PoolI.mints {R : List Pr} (h : PoolI R) {k j : Nat} (hk : k < (feesOf R).length) (hj : j < 3) {v : PdV} (hv : readPd (feesOf R)[k].2 = some v) (hz : eqB (amtK v j) U4.zero = false) : (mintM (putK v j (putsL ((feesOf R).take k) [])) poolS v.dn (amtK v j)).1 = 0 := by
  have ih := PoolI.walk h k (by omega)
  have hp : (feesOf R)[k] ∈ feesOf R := List.getElem_mem hk
  obtain ⟨v', e1, e2, -⟩ := PoolG.fees h _ (List.mem_filter.1 hp).1 (by simpa using (List.mem_filter.1 hp).2)
  rw [hv] at e1
  injection e1 with e1
  subst e1
  have ht : (feesOf R).take (k + 1) = (feesOf R).take k ++ [(feesOf R)[k]] := by rw [List.take_append_getElem]
  have hle := sumW_take_le v.dn (feesOf R) (k + 1)
  have hlt := PoolI.lt h e2
  rw [ht, sumW_snoc, feeW_some hv, if_pos rfl] at hle
  exact (PoolT.amt (readPd_ok hv) e2 ih (by show sumW v.dn _ + _ < top; omega) j (by omega)).2 hj hz
/-- and the end: the same pairs -/
theorem PoolI.end {R : List Pr} (h : PoolI R) : R.filter (fun p => begB poolP p.1) = (putsL (feesOf R) []).filter (fun p => begB poolP p.1) := by
  have h1 := PoolI.walk h (feesOf R).length (Nat.le_refl _)
  rw [List.take_length] at h1
  exact PoolG.same h h1.g
end Go.Proofs.YtaafaaoioleokaaGreatDoor
namespace Go.Proofs.YtaafaaoioleokaaGreatDoor
set_option maxRecDepth 100000
open Go Go.RowKit
set_option linter.unusedVariables false

section
variable {w w' : World} {b B : Nat} {R : List Pr}
theorem docS_ne (h : DocS w b R) {g i : Nat} {u : Value} (e : w.cell? ⟨g, i, none⟩ = some u) (h1 : ∀ A n c, u ≠ .slice A n c) (h2 : u ≠ .pointer none) : g ≠ b := by
  obtain ⟨v, hb, hr⟩ := h
  obtain ⟨A, c, rfl⟩ := RdP.form hr
  exact not_own hb e h1 h2
theorem rd_chgD (hd : DocS w b R) {v : Value} {l : List UInt8} (h : Rd w B v l) (hc : Chg w w' (fun k => k = b)) : Rd w' B v l := by
  obtain ⟨A, c, hv, h1, h2, hp⟩ := h
  refine ⟨A, c, hv, h1, h2, fun h0 => ?_⟩
  obtain ⟨g, o, hA, hl, hcell⟩ := hp h0
  refine ⟨g, o, hA, hl, fun j hj => ?_⟩
  have e := hcell j hj
  exact hc.cellB (docS_ne hd e (fun _ _ _ h => by cases h) (fun h => by cases h)) e
theorem rdp_chgD (hd : DocS w b R) {v : Value} {ps : List Pr} (h : RdP w B v ps) (hc : Chg w w' (fun k => k = b)) : RdP w' B v ps := by
  obtain ⟨A, c, hv, h1, h2, hp⟩ := h
  refine ⟨A, c, hv, h1, h2, fun h0 => ?_⟩
  obtain ⟨g, o, hA, hl, hcell⟩ := hp h0
  have hg : g ≠ b := docS_ne hd (hcell 0 h0).1 (fun _ _ _ h => by cases h) (fun h => by cases h)
  refine ⟨g, o, hA, hl, fun j hj => ?_⟩
  obtain ⟨q1, x, q2, q3⟩ := hcell j hj
  exact ⟨hc.cellB hg q1, x, hc.cellB hg q2, rd_chgD hd q3 hc⟩
end
/-! ### how many pairs there are -/
theorem setL_len (key : ByteArray) (v : List UInt8) (R : List Pr) : (setL key v R).length ≤ R.length + 1 := by
  unfold setL
  split
  · exact putL_length _ R
  · exact Nat.le_succ _
theorem keepL_len (key : ByteArray) (x : U4) (R : List Pr) : (keepL key x R).length ≤ R.length + 1 := putL_length _ R
theorem send_len (R : List Pr) (a b d : ByteArray) (x : U4) : (sendM R a b d x).2.length ≤ R.length + 2 := by
  unfold sendM
  split
  · split
    · split
      · split
        · exact Nat.le_add_right _ _
        · split
          · dsimp only
            have h1 := keepL_len (kBal a d) (subU (balM R a d) x).1 R
            have h2 := keepL_len (kBal b d) (addU (balM R b d) x).1 (keepL (kBal a d) (subU (balM R a d) x).1 R)
            omega
          · exact Nat.le_add_right _ _
      · exact Nat.le_add_right _ _
    · exact Nat.le_add_right _ _
  · exact Nat.le_add_right _ _
theorem ahead_len (R : List Pr) (id : ByteArray) (n : Nat) (v : PdV) : (aheadM R id n v).2.length ≤ R.length + 3 := by
  unfold aheadM
  split
  · split
    · split
      · exact Nat.le_add_right _ _
      · split
        · split
          · dsimp only
            have h1 := send_len R v.fr poolS v.dn (totFee v).1
            have h2 := putL_length (kFee id n, some (pdB v)) (sendM R v.fr poolS v.dn (totFee v).1).2
            omega
          · exact Nat.le_add_right _ _
        · exact Nat.le_add_right _ _
    · exact Nat.le_add_right _ _
  · exact Nat.le_add_right _ _
theorem give_len (R : List Pr) (v : PdV) (to : ByteArray) (x : U4) : (giveM R v to x).2.length ≤ R.length + 2 := by
  unfold giveM
  split
  · exact Nat.le_add_right _ _
  · exact send_len _ _ _ _ _
theorem gives_len (v : PdV) : ∀ (gl : List (ByteArray × U4)) (R : List Pr), (givesM v gl R).2.length ≤ R.length + 2 * gl.length
  | [], R => Nat.le_refl _
  | g :: gl, R => by
    have h1 := give_len R v g.1 g.2
    have h2 := gives_len v gl (giveM R v g.1 g.2).2
    unfold givesM
    rw [List.length_cons]
    split <;> omega
theorem settle_len (R : List Pr) (id : ByteArray) (n : Nat) (fw by_ : ByteArray) (late : Bool) : (settleM R id n fw by_ late).2.length ≤ R.length + 7 := by
  unfold settleM
  split
  · exact Nat.le_add_right _ _
  · next v _ =>
    split
    · dsimp only
      have h1 := gives_len v (giftsM v fw by_ late) R
      have h2 : (giftsM v fw by_ late).length = 3 := by unfold giftsM; split <;> rfl
      have h3 := putL_length (kFee id n, Option.none) (givesM v (giftsM v fw by_ late) R).2
      omega
    · exact Nat.le_add_right _ _
def kOne : ByteArray := ⟨#[102, 101, 101, 47, 99, 47, 48, 48, 48, 48, 48, 48, 48, 48, 48, 48, 48, 48, 48, 48, 48, 49]⟩
theorem kOne_eq : kOne = kFee ⟨#[99]⟩ 1 := by decide +kernel
theorem kOne_fits : keyB kOne = true := by decide +kernel
theorem new_one (Z : World) (x : Value) (u : List UInt8) (hr : Rd Z Z.heap.size x u) (hu : u.length ≤ 65535) :
    Calls Tryz.prog 7 #[.slice (some ⟨Z.heap.size, 0, none⟩) 1 1] (Z.alloc (.cells #[.string kOne, x] 76)) fun e w' => ∃ zb zm zf, e = .returned (.tuple #[.pointer (some ⟨zb, 0, none⟩), .int .i64 0]) ∧ At w' ⟨zb, zm, 1, zf⟩ [] [(kOne, u)] 0 w' ∧ Below Z.heap.size Z w' := by
  have hz : Below Z.heap.size Z (Z.alloc (.cells #[.string kOne, x] 76)) := (Below.refl _ _).alloc (Nat.le_refl _) _
  have hs : ∀ p ∈ [((kOne, u) : Pr)], p.1.size ≤ maxLen := fun p hp => by
    rw [List.mem_singleton.1 hp]
    show kOne.size ≤ maxLen
    decide +kernel
  refine (new_any _ _ [(kOne, u)] (rdp_oneF Z kOne x u hr) hs).mono ?_
  rintro e w' ⟨⟨h, -⟩ | ⟨-, y, rfl, h1, h2, h3, h4, h5, h6⟩, hb⟩
  · have : ordR none [((kOne, u) : Pr)] = true := by
      simp only [ordR, pairB, kOne_fits, Bool.and_true, Bool.true_and, decide_eq_true_eq]
      exact hu
    rw [this] at h; cases h
  · obtain ⟨yb, ym, yn, yf⟩ := y
    have h3' : yn = 1 := h3
    subst h3'
    exact ⟨yb, ym, yf, rfl, At.made h6 h4 h5 hs, hz.trans (hb.mono hz.size)⟩
theorem get_one {u : List UInt8} {v : PdV} (h : readPd u = some v) : getPd [(kOne, u)] ⟨#[99]⟩ 1 = some v := by
  unfold getPd
  rw [← kOne_eq]
  simp [getL, h]
def PdV.three (v : PdV) : Array Value := #[.int .u64 (v.x.a : Int), .int .u64 (v.x.b : Int), .int .u64 (v.x.c : Int), .int .u64 (v.x.d : Int), .int .u64 (v.y.a : Int), .int .u64 (v.y.b : Int), .int .u64 (v.y.c : Int), .int .u64 (v.y.d : Int), .int .u64 (v.z.a : Int), .int .u64 (v.z.b : Int), .int .u64 (v.z.c : Int), .int .u64 (v.z.d : Int)]
theorem three_cell {W : World} {g : Nat} {v : PdV} {t : TypeId} (h : W.heap[g]? = some (.cells v.three t (0, 0))) {i : Nat} (hi : i < 3) : W.cell? ⟨g, i * 4, none⟩ = some (.int .u64 ((amtK v i).a : Int)) ∧ W.cell? ⟨g, i * 4 + 1, none⟩ = some (.int .u64 ((amtK v i).b : Int)) ∧ W.cell? ⟨g, i * 4 + 2, none⟩ = some (.int .u64 ((amtK v i).c : Int)) ∧ W.cell? ⟨g, i * 4 + 3, none⟩ = some (.int .u64 ((amtK v i).d : Int)) := by
  match i, hi with
  | 0, _ => exact ⟨blk_cell h 0, blk_cell h 1, blk_cell h 2, blk_cell h 3⟩
  | 1, _ => exact ⟨blk_cell h 4, blk_cell h 5, blk_cell h 6, blk_cell h 7⟩
  | 2, _ => exact ⟨blk_cell h 8, blk_cell h 9, blk_cell h 10, blk_cell h 11⟩
theorem mint_key {T : List Pr} {a d : ByteArray} {x : U4} (h : ∀ p ∈ T, keyB p.1 = true) : ∀ p ∈ (mintM T a d x).2, keyB p.1 = true := by
  unfold mintM changeM
  split
  · next h0 =>
    obtain ⟨q1, q2, -⟩ := rightM_zero h0
    split
    · intro p hp
      dsimp only at hp
      unfold keepL at hp
      rcases memL hp with ⟨v, hv, rfl⟩ | ⟨hp, -⟩
      · exact kBal_fits q1 q2
      · rcases memL hp with ⟨v, hv, rfl⟩ | ⟨hp, -⟩
        · exact kSup_fits q2
        · exact h p hp
    · exact h
  · exact h
theorem putIn_key {T : List Pr} {d : ByteArray} {x : U4} (h : ∀ p ∈ T, keyB p.1 = true) : ∀ p ∈ putIn d x T, keyB p.1 = true := by
  unfold putIn
  split
  · exact h
  · exact mint_key h
theorem putsL_key : ∀ (L T : List Pr), (∀ p ∈ T, keyB p.1 = true) → ∀ p ∈ putsL L T, keyB p.1 = true
  | [], T, h => h
  | q :: L, T, h => by
    unfold putsL
    refine putsL_key L _ ?_
    split
    · exact putIn_key (putIn_key (putIn_key h))
    · exact h
theorem putsL_small (L : List Pr) : ∀ p ∈ putsL L [], p.1.size ≤ maxLen := fun p hp => by
  have h := putsL_key L [] (fun p hp => by cases hp) p hp
  simp only [keyB, Bool.and_eq_true, decide_eq_true_eq] at h
  unfold maxLen
  omega
theorem Doc.rest {w w2 W W2 : World} {b N N' : Nat} {R R' : List Pr} (h : Doc w b R N W) (k : Doc W b R' N' W2) : Doc w b R' N' W2 := ⟨k.s, k.n, k.v, h.c.trans' k.c⟩
theorem Doc.here {w W : World} {b N : Nat} {R : List Pr} (h : Doc w b R N W) : Doc W b R N W := ⟨h.s, h.n, h.v, Chg.refl _ _⟩
set_option maxHeartbeats 16000000 in
theorem fpool_any {W w : World} {y : Lyr} {R : List Pr} {k : Nat} (h : At W y [] R k w) (hk : y.n + k ≤ 1000000000) (hI : PoolI R) (hlen : R.length ≤ 16000000) :
    Calls Tryz.prog 15 #[.pointer (some ⟨y.b, 0, none⟩)] w fun e w' => e = .returned (.bool true) ∧ Below w.heap.size w w' := by
  have HNEW := Lib.hid (rnew_doc w (.slice none 0 0) [] ⟨none, 0, rfl, Nat.le_refl _, Nat.zero_le _, fun h => absurd h (by simp)⟩ (by simp) (by simp) (by simp))
  have HPA := Lib.hid (fun (Z : World) (hz : Below w.heap.size w Z) => (Acc.mk (h.up hz).b (h.up hz).p).pairs hk feeP (by decide +kernel))
  have HPB := Lib.hid (fun (Z : World) (hz : Below w.heap.size w Z) => (Acc.mk (h.up hz).b (h.up hz).p).pairs hk poolP (by decide +kernel))
  have HSV : Hid (∀ p ∈ feesOf R, p.2.length ≤ 65535) := Lib.hid fun p hp => (h.fits (hI.rise.get (List.mem_filter.1 hp).1)).2
  have HI := Lib.hid hI
  have hnl : (feesOf R).length ≤ 16000000 := Nat.le_trans (List.length_filter_le _ _) hlen
  have HSM : Hid (∀ (Z : World) (a c : Value), RdP Z Z.heap.size a (R.filter (fun p => begB poolP p.1)) → RdP Z Z.heap.size c ((putsL (feesOf R) []).filter (fun p => begB poolP p.1)) → Calls Tryz.prog 18 #[a, c] Z fun e w' => e = .returned (.bool true) ∧ Below Z.heap.size Z w') := Lib.hid fun Z a c ha hc => by
    have := samePs_any Z a c _ _ ha hc
    rw [decide_eq_true (PoolI.end hI)] at this
    exact this
  have HFI : Hid (∀ j (hj : j < (feesOf R).length), ∃ v, readPd (feesOf R)[j].2 = some v ∧ v.ok ∧ putsL ((feesOf R).take (j + 1)) [] = putK v 3 (putsL ((feesOf R).take j) []) ∧ ∀ i, i < 3 → eqB (amtK v i) U4.zero = false → (mintM (putK v i (putsL ((feesOf R).take j) [])) poolS v.dn (amtK v i)).1 = 0) := Lib.hid fun j hj => by
    have hp : (feesOf R)[j] ∈ feesOf R := List.getElem_mem hj
    obtain ⟨v, e1, -, -⟩ := PoolG.fees hI _ (List.mem_filter.1 hp).1 (by simpa using (List.mem_filter.1 hp).2)
    refine ⟨v, e1, readPd_ok e1, ?_, fun i hi hz => PoolI.mints hI hj hi e1 hz⟩
    rw [show (feesOf R).take (j + 1) = (feesOf R).take j ++ [(feesOf R)[j]] by rw [List.take_append_getElem], putsL_snoc, e1]
  have HFO : Hid (feesOf R = R.filter (fun p => begB feeP p.1)) := Lib.hid rfl
  obtain ⟨PL, hPL⟩ : ∃ L, L = R.filter (fun p => begB poolP p.1) := ⟨_, rfl⟩
  rw [← hPL] at HPB HSM
  rw [← HFO.out] at HPA
  have HEN := Lib.hid (show putsL ((feesOf R).take (feesOf R).length) [] = putsL (feesOf R) [] by rw [List.take_length])
  clear h hI hlen hPL HFO
  generalize feesOf R = L at *
  obtain ⟨n, hn⟩ : ∃ n, n = L.length := ⟨_, rfl⟩
  rw [← hn] at hnl HEN
  have HNL := Lib.hid (And.intro hn hnl)
  obtain ⟨yb, ym, yn, yf⟩ := y
  unfold feeP at HPA
  unfold poolP at HPB
  dsimp only at HPA HPB ⊢
  clear hk hnl
  go_enter Tryz.func15, Tryz.ntmps15
  go_wp2_with fail
  refine HNEW.out.mono ?_
  rintro e w1 ⟨⟨hor, -⟩ | ⟨-, b, rfl, hbb, hds⟩, hb1⟩
  · exact absurd hor (by decide)
  go_wp2_with fail
  refine (HPA.out _ hb1).mono ?_
  rintro e w2 ⟨v2, rfl, hop, hb2⟩
  have D2 : Doc w2 b [] 0 w2 := ⟨hds.up hb2, by simp, by simp, Chg.refl _ _⟩
  have HD0 := Lib.hid D2
  have hrp := hop.rdP
  have HRP := Lib.hid (fun (Z : World) (hc : Chg w2 Z (fun k => k = b)) => rdp_chgD D2.s hrp hc)
  obtain ⟨A2, c2, rfl⟩ := hop.form
  have hq2 := below_chain hb1 hb1.size hb2
  have HBW := Lib.hid (fun (Z : World) (hc : Chg w2 Z (fun k => k = b)) => (show Below w.heap.size w Z from hq2.trans (hc.below (B := w.heap.size) (fun k e => by rw [e]; exact hbb) hq2.size)))
  have hbl : b < w2.heap.size := by
    obtain ⟨v, hb, -⟩ := D2.s
    exact blk_lt hb
  rw [← hn] at HRP ⊢
  clear HNEW HPA hds hb1 hb2 hop D2 hrp hbb hq2 hn
  go_wp2_with fail
  go_loopw [20] (fun i Z => ∃ j : Nat, j ≤ n ∧ i = .int .i64 (j : Int) ∧ Doc w2 b (putsL (L.take j) []) (6 * j) Z)
    (fun i _ => n - (intOf i).toNat)
  case atStart => exact ⟨0, by omega, rfl, HD0.out⟩
  case round =>
    have hn9 : n ≤ 16000000 := HNL.out.2
    obtain ⟨j, hj, rfl, hD⟩ := hrel
    have HD := Lib.hid hD
    by_cases hlt : j < n
    · have hjl : j < L.length := by have := HNL.out.1; omega
      obtain ⟨v, hv1, hv2, hv3, hv4⟩ := HFI.out j hjl
      obtain ⟨A', c', e', -, -, hp⟩ := HRP.out _ hD.c
      obtain ⟨g, o, rfl, hgl, hcell⟩ := hp (by omega)
      injection e' with e1 e2 e3
      subst e1 e3
      obtain ⟨q1, x, q2, q3⟩ := hcell j hjl
      have hu := HSV.out _ (List.getElem_mem hjl)
      generalize L[j] = pr at *
      obtain ⟨key, u⟩ := pr
      dsimp only at hv1 q1 q2 q3 hu
      obtain ⟨Ax, cx, rfl⟩ := q3.form
      have ha : Below wr.heap.size wr (wr.alloc (.cells #[.string key, .slice Ax u.length cx] 76)) := (Below.refl _ _).alloc (Nat.le_refl _) _
      have HX := heap_alloc_new wr (.cells #[.string key, .slice Ax u.length cx] 76)
      have p0 := blk_cell HX 0
      have p1 := blk_cell HX 1
      have hx : Rd (wr.alloc (.cells #[.string key, .slice Ax u.length cx] 76)) (wr.alloc (.cells #[.string key, .slice Ax u.length cx] 76)).heap.size (.slice Ax u.length cx) u := (q3.more hD.c.size).up (Nat.le_refl _) ha
      have HN1 := Lib.hid (new_one _ _ u hx hu)
      have i1 : (0 : Int) ≤ (j : Int) := by omega
      have i2 : (j : Int) < (n : Int) := by omega
      have hda := hD.up ha
      unfold kOne at HN1
      have hsz1 : (wr.alloc (.cells #[.string key, .slice Ax u.length cx] 76)).heap.size = wr.heap.size + 1 := by simp
      have HUP := Lib.hid (fun (Z : World) (hz : Below (wr.alloc (.cells #[.string key, .slice Ax u.length cx] 76)).heap.size (wr.alloc (.cells #[.string key, .slice Ax u.length cx] 76)) Z) => hda.up hz)
      rw [hsz1] at HN1 HUP
      have HV3 := Lib.hid hv3
      have HA := Lib.hid ha
      clear hD hp e2 hcell hgl hx hv3 ha
      go_wp2_with fail
      refine HN1.out.mono ?_
      rintro e w5 ⟨zb, zm, zf, rfl, A5, hb5⟩
      have HG := Lib.hid (fget_any A5 ⟨#[99]⟩ 1 (by decide) (by decide +kernel))
      have hg1 := get_one hv1
      unfold kOne at hg1
      rw [hg1] at HG
      obtain ⟨fr, dn, x1, y1, z1⟩ := v
      obtain ⟨hv2x, hv2y, hv2z, hv2f, hv2d⟩ := id hv2
      unfold pdO PdV.val PdV.cells at HG
      dsimp only at HG hv4 hv2f hv2d
      have d5 := HUP.out _ hb5
      have HD5 := Lib.hid d5
      have HV4 := Lib.hid hv4
      clear hv1 hg1 A5 hb5 HN1 HX p0 p1 q1 q2 q3 hda HUP hsz1 d5 hv4 hu
      go_wp2_with fail
      refine HG.out.mono ?_
      rintro e w6 ⟨rfl, hb6⟩
      have d6 := HD5.out.up hb6
      have ha7 : Below w6.heap.size w6 (w6.alloc (.cells #[.string fr, .string dn, .int .u64 (x1.a : Int), .int .u64 (x1.b : Int), .int .u64 (x1.c : Int), .int .u64 (x1.d : Int), .int .u64 (y1.a : Int), .int .u64 (y1.b : Int), .int .u64 (y1.c : Int), .int .u64 (y1.d : Int), .int .u64 (z1.a : Int), .int .u64 (z1.b : Int), .int .u64 (z1.c : Int), .int .u64 (z1.d : Int)] 103)) := (Below.refl _ _).alloc (Nat.le_refl _) _
      have ha8 : Below w6.heap.size w6 ((w6.alloc (.cells #[.string fr, .string dn, .int .u64 (x1.a : Int), .int .u64 (x1.b : Int), .int .u64 (x1.c : Int), .int .u64 (x1.d : Int), .int .u64 (y1.a : Int), .int .u64 (y1.b : Int), .int .u64 (y1.c : Int), .int .u64 (y1.d : Int), .int .u64 (z1.a : Int), .int .u64 (z1.b : Int), .int .u64 (z1.c : Int), .int .u64 (z1.d : Int)] 103)).alloc (.cells #[.int .u64 (x1.a : Int), .int .u64 (x1.b : Int), .int .u64 (x1.c : Int), .int .u64 (x1.d : Int), .int .u64 (y1.a : Int), .int .u64 (y1.b : Int), .int .u64 (y1.c : Int), .int .u64 (y1.d : Int), .int .u64 (z1.a : Int), .int .u64 (z1.b : Int), .int .u64 (z1.c : Int), .int .u64 (z1.d : Int)] 32)) := ha7.alloc ha7.size _
      have hP := heap_alloc_new w6 (.cells #[.string fr, .string dn, .int .u64 (x1.a : Int), .int .u64 (x1.b : Int), .int .u64 (x1.c : Int), .int .u64 (x1.d : Int), .int .u64 (y1.a : Int), .int .u64 (y1.b : Int), .int .u64 (y1.c : Int), .int .u64 (y1.d : Int), .int .u64 (z1.a : Int), .int .u64 (z1.b : Int), .int .u64 (z1.c : Int), .int .u64 (z1.d : Int)] 103)
      have hR := heap_alloc_new (w6.alloc (.cells #[.string fr, .string dn, .int .u64 (x1.a : Int), .int .u64 (x1.b : Int), .int .u64 (x1.c : Int), .int .u64 (x1.d : Int), .int .u64 (y1.a : Int), .int .u64 (y1.b : Int), .int .u64 (y1.c : Int), .int .u64 (y1.d : Int), .int .u64 (z1.a : Int), .int .u64 (z1.b : Int), .int .u64 (z1.c : Int), .int .u64 (z1.d : Int)] 103)) (.cells #[.int .u64 (x1.a : Int), .int .u64 (x1.b : Int), .int .u64 (x1.c : Int), .int .u64 (x1.d : Int), .int .u64 (y1.a : Int), .int .u64 (y1.b : Int), .int .u64 (y1.c : Int), .int .u64 (y1.d : Int), .int .u64 (z1.a : Int), .int .u64 (z1.b : Int), .int .u64 (z1.c : Int), .int .u64 (z1.d : Int)] 32)
      have b1 := blk_cell hP 1
      have b2 := blk_cell hP 2
      have b3 := blk_cell hP 3
      have b4 := blk_cell hP 4
      have b5 := blk_cell hP 5
      have b6 := blk_cell hP 6
      have b7 := blk_cell hP 7
      have b8 := blk_cell hP 8
      have b9 := blk_cell hP 9
      have b10 := blk_cell hP 10
      have b11 := blk_cell hP 11
      have b12 := blk_cell hP 12
      have b13 := blk_cell hP 13
      have d8 := d6.up ha8
      have hP8 := (((Below.refl _ _).alloc (Nat.le_refl _) (.cells #[.int .u64 (x1.a : Int), .int .u64 (x1.b : Int), .int .u64 (x1.c : Int), .int .u64 (x1.d : Int), .int .u64 (y1.a : Int), .int .u64 (y1.b : Int), .int .u64 (y1.c : Int), .int .u64 (y1.d : Int), .int .u64 (z1.a : Int), .int .u64 (z1.b : Int), .int .u64 (z1.c : Int), .int .u64 (z1.d : Int)] 32) : Below (w6.alloc (.cells #[.string fr, .string dn, .int .u64 (x1.a : Int), .int .u64 (x1.b : Int), .int .u64 (x1.c : Int), .int .u64 (x1.d : Int), .int .u64 (y1.a : Int), .int .u64 (y1.b : Int), .int .u64 (y1.c : Int), .int .u64 (y1.d : Int), .int .u64 (z1.a : Int), .int .u64 (z1.b : Int), .int .u64 (z1.c : Int), .int .u64 (z1.d : Int)] 103)).heap.size (w6.alloc (.cells #[.string fr, .string dn, .int .u64 (x1.a : Int), .int .u64 (x1.b : Int), .int .u64 (x1.c : Int), .int .u64 (x1.d : Int), .int .u64 (y1.a : Int), .int .u64 (y1.b : Int), .int .u64 (y1.c : Int), .int .u64 (y1.d : Int), .int .u64 (z1.a : Int), .int .u64 (z1.b : Int), .int .u64 (z1.c : Int), .int .u64 (z1.d : Int)] 103)) _).block _ (blk_lt hP)).trans hP
      have hbw : b < w6.heap.size := by
        obtain ⟨v, hb, -⟩ := d6.s
        exact blk_lt hb
      have hnP : w6.heap.size ≠ b := by omega
      have hnR : (w6.alloc (.cells #[.string fr, .string dn, .int .u64 (x1.a : Int), .int .u64 (x1.b : Int), .int .u64 (x1.c : Int), .int .u64 (x1.d : Int), .int .u64 (y1.a : Int), .int .u64 (y1.b : Int), .int .u64 (y1.c : Int), .int .u64 (y1.d : Int), .int .u64 (z1.a : Int), .int .u64 (z1.b : Int), .int .u64 (z1.c : Int), .int .u64 (z1.d : Int)] 103)).heap.size ≠ b := by have := ha7.size; omega
      have hsz2 : (w6.alloc (.cells #[.string fr, .string dn, .int .u64 (x1.a : Int), .int .u64 (x1.b : Int), .int .u64 (x1.c : Int), .int .u64 (x1.d : Int), .int .u64 (y1.a : Int), .int .u64 (y1.b : Int), .int .u64 (y1.c : Int), .int .u64 (y1.d : Int), .int .u64 (z1.a : Int), .int .u64 (z1.b : Int), .int .u64 (z1.c : Int), .int .u64 (z1.d : Int)] 103)).heap.size = w6.heap.size + 1 := by simp
      rw [hsz2] at hR hnR
      have HPB8 := Lib.hid hP8
      have HRB8 := Lib.hid hR
      have HD8 := Lib.hid d8
      clear HG HD5 hb6 d6 hP hR d8 hP8 hbw hsz2
      go_wp2_with fail
      generalize w6.heap.size + 1 = gr at *
      generalize (w6.alloc (.cells #[.string fr, .string dn, .int .u64 (x1.a : Int), .int .u64 (x1.b : Int), .int .u64 (x1.c : Int), .int .u64 (x1.d : Int), .int .u64 (y1.a : Int), .int .u64 (y1.b : Int), .int .u64 (y1.c : Int), .int .u64 (y1.d : Int), .int .u64 (z1.a : Int), .int .u64 (z1.b : Int), .int .u64 (z1.c : Int), .int .u64 (z1.d : Int)] 103)).alloc (.cells #[.int .u64 (x1.a : Int), .int .u64 (x1.b : Int), .int .u64 (x1.c : Int), .int .u64 (x1.d : Int), .int .u64 (y1.a : Int), .int .u64 (y1.b : Int), .int .u64 (y1.c : Int), .int .u64 (y1.d : Int), .int .u64 (z1.a : Int), .int .u64 (z1.b : Int), .int .u64 (z1.c : Int), .int .u64 (z1.d : Int)] 32) = w8 at *
      generalize w6.heap.size = gp at *
      clear b1 b2 b3 b4 b5 b6 b7 b8 b9 b10 b11 b12 b13 ha7 ha8
      go_loopw [56] (fun i Z => ∃ q : Nat, q ≤ 3 ∧ i = .int .i64 (q : Int) ∧ Doc w8 b (putK ⟨fr, dn, x1, y1, z1⟩ q (putsL (L.take j) [])) (6 * j + 2 * q) Z)
        (fun i _ => 3 - (intOf i).toNat)
      case atStart => exact ⟨0, by omega, rfl, HD8.out.here⟩
      case round =>
        obtain ⟨q, hq, rfl, hE⟩ := hrel
        by_cases hq3 : q < 3
        · have hP9 := (hE.c.block _ (blk_lt HPB8.out) hnP).trans HPB8.out
          have hR9 := (hE.c.block _ (blk_lt HRB8.out) hnR).trans HRB8.out
          have s1 := blk_cell hP9 1
          obtain ⟨f0, f1, f2, f3⟩ := three_cell (v := ⟨fr, dn, x1, y1, z1⟩) hR9 hq3
          have hax := amtK_ok (v := ⟨fr, dn, x1, y1, z1⟩) hv2 q
          have hm := HV4.out q hq3
          have hst := putK_step ⟨fr, dn, x1, y1, z1⟩ (putsL (L.take j) []) hq3
          have j1 : (0 : Int) ≤ (q : Int) := by omega
          have j2 : (q : Int) < 3 := by omega
          generalize amtK ⟨fr, dn, x1, y1, z1⟩ q = ax at *
          have HE := Lib.hid hE
          have haB : Below wr.heap.size wr (wr.alloc (.cells #[.int .u64 (ax.a : Int), .int .u64 (ax.b : Int), .int .u64 (ax.c : Int), .int .u64 (ax.d : Int)] 32)) := (Below.refl _ _).alloc (Nat.le_refl _) _
          have hXB := heap_alloc_new wr (.cells #[.int .u64 (ax.a : Int), .int .u64 (ax.b : Int), .int .u64 (ax.c : Int), .int .u64 (ax.d : Int)] 32)
          have r0 := blk_cell hXB 0
          have r1 := blk_cell hXB 1
          have r2 := blk_cell hXB 2
          have r3 := blk_cell hXB 3
          have s1' := (haB.cell (p := ⟨gp, 1, none⟩) (blk_lt hP9)).trans s1
          have hN : 6 * j + 2 * q + 2 ≤ 100000000 := by have := HNL.out; omega
          have HM := Lib.hid (rmint_any (hE.up haB).here hN poolS dn ax hax (by decide +kernel) (by omega))
          have HC := Lib.hid (hE.up haB)
          have HST := Lib.hid hst
          clear hst hN hE hP9 hR9 hXB
          by_cases hz : eqB ax U4.zero = true
          · have q1 : ∀ W, (binOp .neq 32 (.agg #[.int .u64 (ax.a : Int), .int .u64 (ax.b : Int), .int .u64 (ax.c : Int), .int .u64 (ax.d : Int)]) (.agg #[.int .u64 0, .int .u64 0, .int .u64 0, .int .u64 0])).run Tryz.prog W = .ok (.bool false) W := fun W => by
              have := neq4 ax U4.zero W
              rw [hz] at this
              exact this
            clear hm HM
            go_wp2_with fail
            have hst := HST.out
            unfold putIn at hst
            rw [if_pos hz] at hst
            have dn9 := HC.out
            rw [← hst] at dn9
            clear hst HST HC q1 s1 s1' r0 r1 r2 r3 f0 f1 f2 f3
            exact ⟨⟨q + 1, by omega, by simp, dn9.more (by omega)⟩, by simp [intOf]; omega⟩
          · have hz' : eqB ax U4.zero = false := by simpa using hz
            have q1 : ∀ W, (binOp .neq 32 (.agg #[.int .u64 (ax.a : Int), .int .u64 (ax.b : Int), .int .u64 (ax.c : Int), .int .u64 (ax.d : Int)]) (.agg #[.int .u64 0, .int .u64 0, .int .u64 0, .int .u64 0])).run Tryz.prog W = .ok (.bool true) W := fun W => by
              have := neq4 ax U4.zero W
              rw [hz'] at this
              exact this
            have hm1 := hm hz'
            unfold poolS at HM hm1
            unfold U4.val U4.cells at HM
            rw [hm1] at HM
            go_wp2_with fail
            refine HM.out.mono ?_
            rintro e w9 ⟨rfl, d9⟩
            have hst := HST.out
            unfold putIn poolS at hst
            rw [if_neg hz] at hst
            have dn9 := HC.out.rest (w2 := w9) d9
            rw [← hst] at dn9
            clear HM q1 s1 s1' r0 r1 r2 r3 f0 f1 f2 f3
            go_wp2_with fail
            exact ⟨⟨q + 1, by omega, by simp, dn9.more (by omega)⟩, by simp [intOf]; omega⟩
        · have h3 : q = 3 := by omega
          subst h3
          have d10 := HD8.out.rest (w2 := wr) hE
          rw [← HV3.out] at d10
          go_wp2_with fail
          exact ⟨⟨j + 1, by omega, by simp, d10.more (by omega)⟩, by simp [intOf]; omega⟩
    · have hjn : j = n := by omega
      subst hjn
      have i2 : ¬ ((j : Int) < (j : Int)) := by omega
      rw [HEN.out] at hD
      go_wp2_with fail
      refine (HPB.out _ (HBW.out _ hD.c)).mono ?_
      rintro e wp ⟨vp, rfl, hop, hbp⟩
      have dp := (hD.up hbp)
      have HRP2 := Lib.hid (rpairs_any (dp.r (by have := HNL.out; omega)) poolP (by decide +kernel) (putsL_small L))
      have HOP := Lib.hid hop
      have HDP := Lib.hid dp
      unfold poolP at HRP2
      go_wp2_with fail
      refine HRP2.out.mono ?_
      rintro e wq ⟨vq, rfl, hrq, hbq⟩
      have HS1 := Lib.hid (HSM.out wq vp vq ((HOP.out.up hbq).rdP) hrq)
      obtain ⟨Ap, cp, rfl⟩ := HOP.out.form
      obtain ⟨Aq, cq, rfl⟩ := RdP.form hrq
      have hqq := HBW.out _ (HDP.out.up hbq).c
      clear hop hbp dp hrq hbq HRP2
      go_wp2_with fail
      refine HS1.out.mono ?_
      rintro e wz ⟨rfl, hbz⟩
      have hfin := below_chain hqq hqq.size hbz
      go_wp2_with fail
      go_ret
      exact ⟨rfl, hfin⟩
end Go.Proofs.YtaafaaoioleokaaGreatDoor
namespace Go.Proofs.YtaafaaoioleokaaGreatDoor
set_option maxRecDepth 100000
open Go Go.RowKit
set_option linter.unusedVariables false

theorem below_setCellsP {B : Nat} {w w' : World} {b : Nat} (h : Below B w w') (hb : B ≤ b) : ∀ (vs : List Value) (o : Nat), Below B w (w'.setCells b o vs)
  | [], o => h
  | v :: vs, o => below_setCellsP (h.setCell (p := ⟨b, o, none⟩) hb v) hb vs (o + 1)
theorem range_cellP {w : World} {b : Nat} {L : List Value} (h : w.rangeAt b 0 L) (i : Nat) (u : Value) (e : L[i]? = some u) : w.cell? ⟨b, i, none⟩ = some u := by
  have := h i u e
  simpa using this
structure FPI (w1 : World) (y : Lyr) (n j : Nat) (Z : World) : Prop where
  ex : ∃ R, At w1 y [] R (7 * j) Z ∧ PoolI R ∧ R.length ≤ n + 7 * j
theorem ne_pool {a : ByteArray} (h : (a.toList == [102, 101, 101, 112, 111, 111, 108]) = false) : a ≠ poolS := fun e => by
  subst e
  revert h
  decide +kernel
set_option maxHeartbeats 64000000 in
theorem fpool_law (w : World) (v0 : Value) (ps : List Pr) (hps : RdP w w.heap.size v0 ps) (hnl : ∀ p ∈ ps, p.1.size ≤ maxLen) (hlen : ps.length ≤ 2000000)
    (v1 : Value) (fs : List FOp) (hfs : RdFO w v1 fs) (hfl : fs.length ≤ 2000000) (hfo : ∀ f ∈ fs, f.fine)
    (fr0 : TypeId × Nat × Nat) (hk : w.heap[2]? = some (.cells kVals fr0.1 fr0.2)) :
    Calls Tryz.prog 3 #[v0, v1] w fun e w' => e = .returned (.bool true) ∧ Below w.heap.size w w' := by
  have HN := Lib.hid (new_any w v0 ps hps hnl)
  have HNL := Lib.hid hnl
  have HLE := Lib.hid (And.intro hlen hfl)
  have HFO := Lib.hid hfo
  have HF0 := Lib.hid (fun (Z : World) (hz : Kept w Z) => hfs.kept hz)
  have HT0 := Lib.hid (fun (Z : World) (hz : Kept w Z) => hz.blockX hk)
  obtain ⟨A0, c0, rfl⟩ : ∃ A c, v0 = .slice A ps.length c := by obtain ⟨A, c, h, _⟩ := hps; exact ⟨A, c, h⟩
  obtain ⟨A1, c1, rfl⟩ : ∃ A c, v1 = .slice A fs.length c := by obtain ⟨A, c, h, _⟩ := hfs; exact ⟨A, c, h⟩
  obtain ⟨nf, hnf⟩ : ∃ n, n = fs.length := ⟨_, rfl⟩
  rw [← hnf] at HF0 ⊢
  have HNF := Lib.hid hnf
  clear hps hnl hlen hfs hfl hfo hk hnf
  go_enter Tryz.func3, Tryz.ntmps3
  go_wp2_with fail
  refine HN.out.mono ?_
  rintro e w1 ⟨⟨-, rfl⟩ | ⟨-, y, rfl, hyb, hym, hyn, hly, hri, hp1⟩, hb1⟩
  · clear HN
    go_wp2_with fail
    refine (ffixed_any _).mono ?_
    rintro e w2 ⟨rfl, hb2⟩
    have hq2 := below_chain hb1 hb1.size hb2
    go_wp2_with fail
    refine (ffixed_any _).mono ?_
    rintro e w3 ⟨rfl, hb3⟩
    have hq3 := below_chain hq2 hq2.size hb3
    go_wp2_with fail
    go_ret
    exact ⟨rfl, hq3⟩
  · have A1' := At.made hp1 hly hri HNL.out
    have HYN := Lib.hid (show y.n = ps.length from hyn)
    have HYM := Lib.hid hym
    have HB1 := Lib.hid hb1
    obtain ⟨yb, ym, yn, yf⟩ := y
    clear hyb hym hyn hly hri hp1 HN hb1
    dsimp only at HYN HYM ⊢
    go_wp2_with fail
    refine (ffixed_any _).mono ?_
    rintro e w2 ⟨rfl, hb2⟩
    have A2 := A1'.up hb2
    clear A1' hb2
    have HFP := Lib.hid (fun (Z : World) (hz : Below w2.heap.size w2 Z) => (Acc.mk (A2.up hz).b (A2.up hz).p).pairs (show yn + 0 ≤ 1000000000 by have := HYN.out; have := HLE.out.1; omega) feeP (by decide +kernel))
    have HPP := Lib.hid (fun (Z : World) (hz : Below w2.heap.size w2 Z) => (Acc.mk (A2.up hz).b (A2.up hz).p).pairs (show yn + 0 ≤ 1000000000 by have := HYN.out; have := HLE.out.1; omega) poolP (by decide +kernel))
    have HRS : Hid (Rise ps) := Lib.hid (by obtain ⟨n, f, h1, h2, h3, h4⟩ := A2.b; exact h2.rise)
    have HA2 := Lib.hid A2
    have HE : Hid (∀ Z, Below w2.heap.size w2 Z → Below w.heap.size w Z) := Lib.hid fun Z hz => HB1.out.trans ((HA2.out.up hz).below (B := w.heap.size) HYM.out HB1.out.size)
    obtain ⟨L1, hL1⟩ : ∃ L, L = ps.filter (fun p => begB feeP p.1) := ⟨_, rfl⟩
    obtain ⟨L2, hL2⟩ : ∃ L, L = ps.filter (fun p => begB poolP p.1) := ⟨_, rfl⟩
    rw [← hL1] at HFP
    rw [← hL2] at HPP
    have HL := Lib.hid (And.intro hL1 hL2)
    unfold feeP at HFP
    unfold poolP at HPP
    clear A2 hL1 hL2
    go_wp2_with fail
    refine (HFP.out _ (Below.refl _ _)).mono ?_
    rintro e w3 ⟨v3, rfl, ho3, hb3⟩
    obtain ⟨A3v, c3, rfl⟩ := ho3.form
    by_cases z1 : L1.length = 0
    rotate_left
    · have q1 : (0 : Int) < (L1.length : Int) := by omega
      have hfin := HE.out _ hb3
      clear HFP HPP ho3 hb3 z1
      generalize L1.length = n1 at *
      go_wp2_with fail
      go_ret
      exact ⟨rfl, hfin⟩
    rw [z1]
    have HZ1 := Lib.hid (List.length_eq_zero_iff.1 z1)
    have HB3 := Lib.hid hb3
    clear ho3 z1 hb3 HFP
    go_wp2_with fail
    refine (HPP.out _ HB3.out).mono ?_
    rintro e w4 ⟨v4, rfl, ho4, hb4⟩
    obtain ⟨A4v, c4, rfl⟩ := ho4.form
    have hb34 := below_chain HB3.out HB3.out.size hb4
    by_cases z2 : L2.length = 0
    rotate_left
    · have q2 : (0 : Int) < (L2.length : Int) := by omega
      have hfin := HE.out _ hb34
      clear HPP ho4 hb4 hb34 z2
      generalize L2.length = n2 at *
      go_wp2_with fail
      go_ret
      exact ⟨rfl, hfin⟩
    rw [z2]
    have HA4 : Hid (FPI w1 ⟨yb, ym, yn, yf⟩ ps.length 0 w4) := Lib.hid ⟨ps, HA2.out.up hb34, PoolI.start HRS.out (HL.out.1.symm.trans HZ1.out) (HL.out.2.symm.trans (List.length_eq_zero_iff.1 z2)), Nat.le_add_right _ _⟩
    clear ho4 z2 hb4 hb34 HPP HB3 HZ1 HL HA2 HRS HE
    go_wp2_with fail
    go_loopw [43] (fun i Z => ∃ j : Nat, j ≤ nf ∧ i = .int .i64 (j : Int) ∧ FPI w1 ⟨yb, ym, yn, yf⟩ ps.length j Z)
      (fun i _ => nf - (intOf i).toNat)
    case atStart => exact ⟨0, by omega, rfl, HA4.out⟩
    case round => as_aux_lemma =>
      clear HA4
      obtain ⟨j, hj, rfl, HX0⟩ := hrel
      obtain ⟨R, AR, hpi, hrl⟩ := HX0.ex
      have HPI := Lib.hid hpi
      have HRL := Lib.hid hrl
      clear hpi hrl
      clear HX0
      have hkr := (Kept.of_belowX HB1.out).transX AR.kept
      by_cases hlt : j < nf
      · have hjl : j < fs.length := by have := HNF.out; omega
        have hj9 : nf ≤ 2000000 := by have := HNF.out; have := HLE.out.2; omega
        have HJ : Hid (yn + 7 * (j + 1) ≤ 1000000000 ∧ 7 * j + 7 = 7 * (j + 1) ∧ ps.length + 7 * (j + 1) ≤ 16000000) := Lib.hid (by have := HYN.out; have := HLE.out.1; omega)
        have HTB := Lib.hid (fun (Z : World) (hz : Kept wr Z) => HT0.out _ (hkr.transX hz))
        obtain ⟨A', c', e', hcell⟩ := HF0.out _ hkr
        obtain ⟨g, o, hA', -, hcl⟩ := hcell (by omega)
        injection e' with e1 e2 e3
        subst e1 e3
        subst hA'
        have hck := hcl j hjl
        have hfine := HFO.out _ (List.getElem_mem hjl)
        generalize fs[j] = op at *
        obtain ⟨kd, fr, by_, id, seq, dn, x, y2, z, late⟩ := op
        obtain ⟨f1, f2, f3, f4, f5, f6, f7, f8⟩ := hfine
        dsimp only at f1 f2 f3 f4 f5 f6 f7 f8
        have HFF := Lib.hid (And.intro f1 (And.intro f2 (And.intro f3 (And.intro f4 (And.intro f5 (And.intro f6 (And.intro f7 f8)))))))
        obtain ⟨OPL, hOPL⟩ : ∃ L : List Value, L = [.int .i64 kd, .string fr, .string by_, .string id, .int .u64 (seq : Int), .string dn, .int .u64 (x.a : Int), .int .u64 (x.b : Int), .int .u64 (x.c : Int), .int .u64 (x.d : Int), .int .u64 (y2.a : Int), .int .u64 (y2.b : Int), .int .u64 (y2.c : Int), .int .u64 (y2.d : Int), .int .u64 (z.a : Int), .int .u64 (z.b : Int), .int .u64 (z.c : Int), .int .u64 (z.d : Int), .bool late] := ⟨_, rfl⟩
        have hrng : wr.rangeAt g (o + j * 19) OPL := fun i u hu => by
          rw [hOPL] at hu
          have hi : i < 19 := by
            have := (List.getElem?_eq_some_iff.1 hu).1
            simpa using this
          exact hck i u hi (by simpa [FOp.cells] using hu)
        have hinf : (Tryz.prog.info? 36).map (·.size) = some OPL.length := by rw [hOPL]; kernel_rfl
        have hone : OPL.toArray.all (·.oneCell') = true := by rw [hOPL]; simp [Value.oneCell']
        have hsz19 : OPL.length = 19 := by rw [hOPL]; rfl
        have hbz := heap_alloc_new wr (.cells #[.int .i64 0, .string ⟨#[]⟩, .string ⟨#[]⟩, .string ⟨#[]⟩, .int .u64 0, .string ⟨#[]⟩, .int .u64 0, .int .u64 0, .int .u64 0, .int .u64 0, .int .u64 0, .int .u64 0, .int .u64 0, .int .u64 0, .int .u64 0, .int .u64 0, .int .u64 0, .int .u64 0, .bool false] 36)
        have hth : (wr.alloc (.cells #[.int .i64 0, .string ⟨#[]⟩, .string ⟨#[]⟩, .string ⟨#[]⟩, .int .u64 0, .string ⟨#[]⟩, .int .u64 0, .int .u64 0, .int .u64 0, .int .u64 0, .int .u64 0, .int .u64 0, .int .u64 0, .int .u64 0, .int .u64 0, .int .u64 0, .int .u64 0, .int .u64 0, .bool false] 36)).there wr.heap.size 0 OPL.toArray.size := fun q hq => by
          have h19 : q < 19 := by simpa [hsz19] using hq
          rw [Nat.zero_add]
          refine ⟨?_, blk_free hbz q⟩
          rw [blk_cell hbz q]
          simpa using h19
        have hbx := World.rangeAt_setCells_same (wr.alloc (.cells #[.int .i64 0, .string ⟨#[]⟩, .string ⟨#[]⟩, .string ⟨#[]⟩, .int .u64 0, .string ⟨#[]⟩, .int .u64 0, .int .u64 0, .int .u64 0, .int .u64 0, .int .u64 0, .int .u64 0, .int .u64 0, .int .u64 0, .int .u64 0, .int .u64 0, .int .u64 0, .int .u64 0, .bool false] 36)) wr.heap.size 0 OPL (by simpa using hth)
        have ha0 : Below wr.heap.size wr ((wr.alloc (.cells #[.int .i64 0, .string ⟨#[]⟩, .string ⟨#[]⟩, .string ⟨#[]⟩, .int .u64 0, .string ⟨#[]⟩, .int .u64 0, .int .u64 0, .int .u64 0, .int .u64 0, .int .u64 0, .int .u64 0, .int .u64 0, .int .u64 0, .int .u64 0, .int .u64 0, .int .u64 0, .int .u64 0, .bool false] 36)).setCells wr.heap.size 0 OPL) := below_setCellsP ((Below.refl _ _).alloc (Nat.le_refl _) _) (Nat.le_refl _) OPL 0
        have HOPL := Lib.hid hOPL
        have HINF := Lib.hid hinf
        have HONE := Lib.hid hone
        have HTH := Lib.hid hth
        have HRNG := Lib.hid hrng
        have i1 : (0 : Int) ≤ (j : Int) := by omega
        have i2 : (j : Int) < (nf : Int) := by omega
        have AR0 := AR.up ha0
        have hk0 := Kept.of_belowX ha0
        have HTB0 := Lib.hid (fun (Z : World) (hz : Kept ((wr.alloc (.cells #[.int .i64 0, .string ⟨#[]⟩, .string ⟨#[]⟩, .string ⟨#[]⟩, .int .u64 0, .string ⟨#[]⟩, .int .u64 0, .int .u64 0, .int .u64 0, .int .u64 0, .int .u64 0, .int .u64 0, .int .u64 0, .int .u64 0, .int .u64 0, .int .u64 0, .int .u64 0, .int .u64 0, .bool false] 36)).setCells wr.heap.size 0 OPL) Z) => HTB.out _ (hk0.transX hz))
        have HBX0 := Lib.hid hbx
        have HAR0 := Lib.hid AR0
        have HA00 := Lib.hid ha0
        have s1 := range_cellP hbx 1 (.string fr) (by rw [hOPL]; rfl)
        have s2 := range_cellP hbx 2 (.string by_) (by rw [hOPL]; rfl)
        have HQF := Lib.hid (HB1.out.trans ((AR0.below (B := w.heap.size) HYM.out HB1.out.size)))
        clear hcell hcl hck e2 AR hkr f1 f2 f3 f4 f5 f6 f7 f8 HTB hk0 hOPL hinf hone hsz19 hth hrng hbz hbx AR0 ha0
        by_cases g1 : (fr.toList == [102, 101, 101, 112, 111, 111, 108]) = true
        · go_wp2_with (first
            | (with_reducible refine at_load 36 ?_; refine wpList_load_mid rfl 36 (.tmp 45) rfl g (o + j * 19) rfl OPL _ HRNG.out Tryz.underlying36 rfl HINF.out ?_)
            | (with_reducible refine at_store 36 ?_; refine wpList_store_mid rfl 36 (.tmp 8) (.tmp 46) rfl wr.heap.size 0 OPL.toArray rfl rfl HTH.out (by have := HINF.out; simpa using this) HONE.out ?_))
          go_ret
          exact ⟨rfl, HQF.out⟩
        replace g1 : (fr.toList == [102, 101, 101, 112, 111, 111, 108]) = false := by simpa using g1
        by_cases g2 : (by_.toList == [102, 101, 101, 112, 111, 111, 108]) = true
        · go_wp2_with (first
            | (with_reducible refine at_load 36 ?_; refine wpList_load_mid rfl 36 (.tmp 45) rfl g (o + j * 19) rfl OPL _ HRNG.out Tryz.underlying36 rfl HINF.out ?_)
            | (with_reducible refine at_store 36 ?_; refine wpList_store_mid rfl 36 (.tmp 8) (.tmp 46) rfl wr.heap.size 0 OPL.toArray rfl rfl HTH.out (by have := HINF.out; simpa using this) HONE.out ?_))
          go_ret
          exact ⟨rfl, HQF.out⟩
        replace g2 : (by_.toList == [102, 101, 101, 112, 111, 111, 108]) = false := by simpa using g2
        have HN1 := Lib.hid (ne_pool g1)
        have HN2 := Lib.hid (ne_pool g2)
        go_wp2_with (first
          | (with_reducible refine at_load 36 ?_; refine wpList_load_mid rfl 36 (.tmp 45) rfl g (o + j * 19) rfl OPL _ HRNG.out Tryz.underlying36 rfl HINF.out ?_)
          | (with_reducible refine at_store 36 ?_; refine wpList_store_mid rfl 36 (.tmp 8) (.tmp 46) rfl wr.heap.size 0 OPL.toArray rfl rfl HTH.out (by have := HINF.out; simpa using this) HONE.out ?_))
        clear s1 s2
        try simp only [List.toList_toArray]
        have hbx := HBX0.out
        have AR0 := HAR0.out
        have ha0 := HA00.out
        clear HBX0 HAR0 HA00 HTH
        try simp only [List.toList_toArray]
        generalize (wr.alloc (.cells #[.int .i64 0, .string ⟨#[]⟩, .string ⟨#[]⟩, .string ⟨#[]⟩, .int .u64 0, .string ⟨#[]⟩, .int .u64 0, .int .u64 0, .int .u64 0, .int .u64 0, .int .u64 0, .int .u64 0, .int .u64 0, .int .u64 0, .int .u64 0, .int .u64 0, .int .u64 0, .int .u64 0, .bool false] 36)).setCells wr.heap.size 0 OPL = w0 at *
        have HTB := HTB0
        clear HTB0
        have HRT0 := Lib.hid ((Acc.mk AR0.b AR0.p).root (show yn + 7 * j ≤ 1000000000 by have := HJ.out; omega) fr0 (HTB.out _ (Kept.refl _)))
        obtain ⟨SR, hcr⟩ : ∃ S : ByteArray, ∀ (Z : World) (v : Value), Rd Z Z.heap.size v (rootM R).1 → (convert 37 9 v).run Tryz.prog Z = .ok (.string S) Z := ⟨⟨(rootM R).1.toArray⟩, fun Z v h => run_str Tryz.underlying37 Tryz.underlying5 Tryz.isString h⟩
        have HCR := Lib.hid hcr
        have hss : (SR.toList == SR.toList) = true := beq_self_eq_true _
        have hsn : (SR.toList != SR.toList) = false := by simp
        clear hcr
        have b0 := range_cellP hbx 0 (.int .i64 kd) (by rw [HOPL.out]; rfl)
        have b1 := range_cellP hbx 1 (.string fr) (by rw [HOPL.out]; rfl)
        have b2 := range_cellP hbx 2 (.string by_) (by rw [HOPL.out]; rfl)
        have b3 := range_cellP hbx 3 (.string id) (by rw [HOPL.out]; rfl)
        have b4 := range_cellP hbx 4 (.int .u64 (seq : Int)) (by rw [HOPL.out]; rfl)
        have b5 := range_cellP hbx 5 (.string dn) (by rw [HOPL.out]; rfl)
        have b6 := range_cellP hbx 6 (.int .u64 (x.a : Int)) (by rw [HOPL.out]; rfl)
        have b7 := range_cellP hbx 7 (.int .u64 (x.b : Int)) (by rw [HOPL.out]; rfl)
        have b8 := range_cellP hbx 8 (.int .u64 (x.c : Int)) (by rw [HOPL.out]; rfl)
        have b9 := range_cellP hbx 9 (.int .u64 (x.d : Int)) (by rw [HOPL.out]; rfl)
        have b10 := range_cellP hbx 10 (.int .u64 (y2.a : Int)) (by rw [HOPL.out]; rfl)
        have b11 := range_cellP hbx 11 (.int .u64 (y2.b : Int)) (by rw [HOPL.out]; rfl)
        have b12 := range_cellP hbx 12 (.int .u64 (y2.c : Int)) (by rw [HOPL.out]; rfl)
        have b13 := range_cellP hbx 13 (.int .u64 (y2.d : Int)) (by rw [HOPL.out]; rfl)
        have b14 := range_cellP hbx 14 (.int .u64 (z.a : Int)) (by rw [HOPL.out]; rfl)
        have b15 := range_cellP hbx 15 (.int .u64 (z.b : Int)) (by rw [HOPL.out]; rfl)
        have b16 := range_cellP hbx 16 (.int .u64 (z.c : Int)) (by rw [HOPL.out]; rfl)
        have b17 := range_cellP hbx 17 (.int .u64 (z.d : Int)) (by rw [HOPL.out]; rfl)
        have b18 := range_cellP hbx 18 (.bool late) (by rw [HOPL.out]; rfl)
        have HAR0 := Lib.hid AR0
        clear hbx AR0 ha0 HOPL HINF HONE HRNG
        refine HRT0.out.mono ?_
        rintro e wA ⟨vA, rfl, hoA, hbA⟩
        have hkA := Kept.of_belowX hbA
        have HWAS0 := Lib.hid hoA.rd
        obtain ⟨Aw, cw, rfl⟩ := hoA.form
        have HWAS := Lib.hid (fun (Z : World) (hz : Kept wA Z) => hz.rd HWAS0.out)
        have A6 := HAR0.out.up hbA
        have HTBA := Lib.hid (fun (Z : World) (hz : Kept wA Z) => HTB.out Z (hkA.transX hz))
        clear HTB
        have HTB := HTBA
        clear HTBA
        replace b0 := hkA.cell b0
        replace b1 := hkA.cell b1
        replace b2 := hkA.cell b2
        replace b3 := hkA.cell b3
        replace b4 := hkA.cell b4
        replace b5 := hkA.cell b5
        replace b6 := hkA.cell b6
        replace b7 := hkA.cell b7
        replace b8 := hkA.cell b8
        replace b9 := hkA.cell b9
        replace b10 := hkA.cell b10
        replace b11 := hkA.cell b11
        replace b12 := hkA.cell b12
        replace b13 := hkA.cell b13
        replace b14 := hkA.cell b14
        replace b15 := hkA.cell b15
        replace b16 := hkA.cell b16
        replace b17 := hkA.cell b17
        replace b18 := hkA.cell b18
        clear g1 g2 HRT0 HAR0 HWAS0 hoA hbA hkA
        generalize (rootM R).1.length = nw at *
        have HA6 := Lib.hid A6
        have HRI : Hid (Rise R) := Lib.hid (by obtain ⟨n, f, h1, h2, h3, h4⟩ := HA6.out.b; exact h2.rise)
        obtain ⟨f1, f2, f3, f4, f5, f6, f7, f8⟩ := HFF.out
        have HAH := Lib.hid (fahead_any HA6.out (show yn + 7 * j + 3 ≤ maxLen by have := HJ.out; unfold maxLen; omega) fr id seq f4 dn x y2 z f1 f2 f3 f5 f7 f8)
        have HST := Lib.hid (fsettle_any HA6.out (show yn + 7 * j + 8 ≤ maxLen by have := HJ.out; unfold maxLen; omega) id ⟨#[]⟩ seq f4 none 0 0 0 0 fr by_ late f7 f5 f6)
        have HKC := Lib.hid (fun Z : World => pCommit_any id seq Z f4 f7)
        have hkp : (kPl wCommit id seq).size ≤ maxLen := by
          unfold kPl
          simp only [ByteArray.size_append]
          rw [show ibcS.size = 4 from rfl, show wCommit.size = 6 from rfl, show slB.size = 1 from rfl, hexN_size]
          unfold maxLen; omega
        have HKP := Lib.hid hkp
        have HPA := Lib.hid (HPI.out.ahead (id := id) (n := seq) (v := ⟨fr, dn, x, y2, z⟩) ⟨f1, f2, f3⟩ HN1.out)
        have HPS := Lib.hid (HPI.out.settle (id := id) (n := seq) (late := late) HN1.out HN2.out)
        clear f1 f2 f3 f4 f5 f6 f7 f8 HFF hkp A6 HN1 HN2
        by_cases k1 : kd = 1
        · subst k1
          have HRE : Hid ((aheadM R id seq ⟨fr, dn, x, y2, z⟩).1 ≠ 0 → (aheadM R id seq ⟨fr, dn, x, y2, z⟩).2 = R) := Lib.hid ahead_no
          have HPI2 := HPA
          have HLN2 := Lib.hid (Nat.le_trans (ahead_len R id seq ⟨fr, dn, x, y2, z⟩) (show R.length + 3 ≤ ps.length + 7 * (j + 1) by have := HRL.out; omega))
          generalize aheadM R id seq ⟨fr, dn, x, y2, z⟩ = AM at *
          obtain ⟨se, R2⟩ := AM
          dsimp only at HAH HRE HPI2 HLN2
          clear HST HKC HKP HRI HPA HPS
          go_wp2_with fail
          refine HAH.out.mono ?_
          rintro e w7 ⟨rfl, A7, hk7⟩
          clear b0 b1 b2 b3 b4 b5 b6 b7 b8 b9 b10 b11 b12 b13 b14 b15 b16 b17 b18 HAH HA6
          by_cases hse : se = 0
          · subst hse
            have HPO : Hid (∀ Z, Below w7.heap.size w7 Z → Calls Tryz.prog 15 #[.pointer (some ⟨yb, 0, none⟩)] Z fun e w' => e = .returned (.bool true) ∧ Below Z.heap.size Z w') := Lib.hid fun Z hz => fpool_any (y := ⟨yb, ym, yn, yf⟩) (A7.up hz) (show yn + (7 * j + 3) ≤ 1000000000 by have := HJ.out; omega) HPI2.out (by have := HLN2.out; have := HJ.out; omega)
            have HNX := Lib.hid (fun (Z : World) (hz : Below w7.heap.size w7 Z) => (show FPI w1 ⟨yb, ym, yn, yf⟩ ps.length (j + 1) Z from ⟨_, (A7.up hz).more (show 7 * j + 3 ≤ 7 * (j + 1) by omega), HPI2.out, by have := HLN2.out; omega⟩))
            have hbd : Below w7.heap.size w7 w7.drew := (Below.refl _ _).drew
            go_wp2_with fail
            refine wp_region_held_drew (S := BelS w7.drew) (by kernel_rfl) (BelS.refl _) (fun hS0 => ?_)
            refine wpAnyH_take (i := 0) (oi := _) (v := ?_) rfl (by kernel_rfl) (by kernel_rfl) (by kernel_rfl) (fun _ _ _ h => h) (Or.inl ⟨by rfl, ?_⟩) hS0 ?_
            rotate_left
            · intro W hSW
              try go_simp
              all_goals with_reducible rfl
            simp only [Act.put, List.setIfInBounds_toArray, List.set_cons_zero, List.set_cons_succ, List.getElem_toArray, List.getElem_cons_zero, List.getElem_cons_succ]
            refine wpAnyH_take (i := 1) (oi := _) (v := .bool false) rfl (by kernel_rfl) (by kernel_rfl) (by kernel_rfl) (fun _ _ _ h => h) (Or.inl ⟨by rfl, ?_⟩) hS0 ?_
            skip
            · intro W hSW
              try go_simp
              all_goals first | with_reducible rfl | (simp; done) | trace_state
            simp only [Act.put, List.setIfInBounds_toArray, List.set_cons_zero, List.set_cons_succ, List.getElem_toArray, List.getElem_cons_zero, List.getElem_cons_succ]
            refine wpAnyH_take (i := 2) (oi := _) (v := .bool false) rfl (by kernel_rfl) (by kernel_rfl) (by kernel_rfl) (fun _ _ _ h => h) (Or.inl ⟨by rfl, ?_⟩) hS0 ?_
            skip
            · intro W hSW
              try go_simp
              all_goals first | with_reducible rfl | (simp; done) | trace_state
            simp only [Act.put, List.setIfInBounds_toArray, List.set_cons_zero, List.set_cons_succ, List.getElem_toArray, List.getElem_cons_zero, List.getElem_cons_succ]
            refine wpAnyH_take (i := 3) (oi := _) (v := undef) rfl (by kernel_rfl) (by kernel_rfl) (by kernel_rfl) (fun _ _ _ h => h) (Or.inr ⟨by rfl, rfl⟩) hS0 ?_
            simp only [Act.put, List.setIfInBounds_toArray, List.set_cons_zero, List.set_cons_succ, List.getElem_toArray, List.getElem_cons_zero, List.getElem_cons_succ]
            refine wpAnyH_take (i := 4) (oi := _) (v := undef) rfl (by kernel_rfl) (by kernel_rfl) (by kernel_rfl) (fun _ _ _ h => h) (Or.inr ⟨by rfl, rfl⟩) hS0 ?_
            simp only [Act.put, List.setIfInBounds_toArray, List.set_cons_zero, List.set_cons_succ, List.getElem_toArray, List.getElem_cons_zero, List.getElem_cons_succ]
            refine wpAnyH_take (i := 5) (oi := _) (v := undef) rfl (by kernel_rfl) (by kernel_rfl) (by kernel_rfl) (fun _ _ _ h => h) (Or.inr ⟨by rfl, rfl⟩) hS0 ?_
            simp only [Act.put, List.setIfInBounds_toArray, List.set_cons_zero, List.set_cons_succ, List.getElem_toArray, List.getElem_cons_zero, List.getElem_cons_succ]
            refine wpAnyH_take (i := 6) (oi := _) (v := undef) rfl (by kernel_rfl) (by kernel_rfl) (by kernel_rfl) (fun _ _ _ h => h) (Or.inr ⟨by rfl, rfl⟩) hS0 ?_
            simp only [Act.put, List.setIfInBounds_toArray, List.set_cons_zero, List.set_cons_succ, List.getElem_toArray, List.getElem_cons_zero, List.getElem_cons_succ]
            refine wpAnyH_take (i := 7) (oi := _) (v := undef) rfl (by kernel_rfl) (by kernel_rfl) (by kernel_rfl) (fun _ _ _ h => h) (Or.inr ⟨by rfl, rfl⟩) hS0 ?_
            simp only [Act.put, List.setIfInBounds_toArray, List.set_cons_zero, List.set_cons_succ, List.getElem_toArray, List.getElem_cons_zero, List.getElem_cons_succ]
            refine wpAnyH_take (i := 8) (oi := _) (v := undef) rfl (by kernel_rfl) (by kernel_rfl) (by kernel_rfl) (fun _ _ _ h => h) (Or.inr ⟨by rfl, rfl⟩) hS0 ?_
            simp only [Act.put, List.setIfInBounds_toArray, List.set_cons_zero, List.set_cons_succ, List.getElem_toArray, List.getElem_cons_zero, List.getElem_cons_succ]
            refine wpAnyH_take (i := 9) (oi := _) (v := .bool false) rfl (by kernel_rfl) (by kernel_rfl) (by kernel_rfl) (fun _ _ _ h => h) (Or.inl ⟨by rfl, ?_⟩) hS0 ?_
            skip
            · intro W hSW
              try go_simp
              all_goals first | with_reducible rfl | (simp; done) | trace_state
            simp only [Act.put, List.setIfInBounds_toArray, List.set_cons_zero, List.set_cons_succ, List.getElem_toArray, List.getElem_cons_zero, List.getElem_cons_succ]
            refine wpAnyH_take (i := 10) (oi := _) (v := .bool false) rfl (by kernel_rfl) (by kernel_rfl) (by kernel_rfl) (fun _ _ _ h => h) (Or.inl ⟨by rfl, ?_⟩) hS0 ?_
            skip
            · intro W hSW
              try go_simp
              all_goals first | with_reducible rfl | (simp; done) | trace_state
            simp only [Act.put, List.setIfInBounds_toArray, List.set_cons_zero, List.set_cons_succ, List.getElem_toArray, List.getElem_cons_zero, List.getElem_cons_succ]
            refine wpAnyH_take (i := 11) (oi := _) (v := ?_) rfl (by kernel_rfl) (by kernel_rfl) (by kernel_rfl) (fun _ _ _ h => h) (Or.inl ⟨by rfl, ?_⟩) hS0 ?_
            rotate_left
            · intro W hSW
              try go_simp
              all_goals with_reducible rfl
            simp only [Act.put, List.setIfInBounds_toArray, List.set_cons_zero, List.set_cons_succ, List.getElem_toArray, List.getElem_cons_zero, List.getElem_cons_succ]
            refine wpAnyH_ready (rs := [12]) (by kernel_rfl) (by simp) (AllReadyH.cons rfl (fun K hK => ?_) AllReadyH.nil)
            have DP := Lib.hid (HPO.out w7.drew hbd)
            go_simp
            go_wp2_with ((go_at_call 15; (with_reducible refine DP.out.mono ?_); rintro e wP ⟨rfl, hbP⟩))
            have hqP := below_chain hbd hbd.size hbP
            refine hK.out _ _ hbP (fun _ => ?_)
            clear hK K DP
            refine wpAnyH_stronger (S' := BelS wP) (fun W h => below_chain hbP hbP.size h) _ _ _ _ ?_
            have hSP : BelS wP wP := BelS.refl wP
            refine wpAnyH_take (i := 13) (oi := _) (v := ?_) rfl (by kernel_rfl) (by kernel_rfl) (by kernel_rfl) (fun _ _ _ h => h) (Or.inl ⟨by rfl, ?_⟩) hSP ?_
            rotate_left
            · intro W hSW
              try go_simp
              all_goals with_reducible rfl
            simp only [Act.put, List.setIfInBounds_toArray, List.set_cons_zero, List.set_cons_succ, List.getElem_toArray, List.getElem_cons_zero, List.getElem_cons_succ]
            refine wpAnyH_take (i := 14) (oi := _) (v := ?_) rfl (by kernel_rfl) (by kernel_rfl) (by kernel_rfl) (fun _ _ _ h => h) (Or.inl ⟨by rfl, ?_⟩) hSP ?_
            rotate_left
            · intro W hSW
              try go_simp
              all_goals with_reducible rfl
            simp only [Act.put, List.setIfInBounds_toArray, List.set_cons_zero, List.set_cons_succ, List.getElem_toArray, List.getElem_cons_zero, List.getElem_cons_succ]
            refine wpAnyH_done (by kernel_rfl) ?_ _
            have hfin := HNX.out _ hqP
            clear HNX HPO
            go_wp2_with fail
            exact ⟨⟨j + 1, by omega, by simp, hfin⟩, by simp [intOf]; omega⟩
          · have hne : (se != 0) = true := by simpa using hse
            have HPO : Hid (∀ Z, Below w7.heap.size w7 Z → Calls Tryz.prog 15 #[.pointer (some ⟨yb, 0, none⟩)] Z fun e w' => e = .returned (.bool true) ∧ Below Z.heap.size Z w') := Lib.hid fun Z hz => fpool_any (y := ⟨yb, ym, yn, yf⟩) (A7.up hz) (show yn + (7 * j + 3) ≤ 1000000000 by have := HJ.out; omega) HPI2.out (by have := HLN2.out; have := HJ.out; omega)
            have HNX := Lib.hid (fun (Z : World) (hz : Below w7.heap.size w7 Z) => (show FPI w1 ⟨yb, ym, yn, yf⟩ ps.length (j + 1) Z from ⟨_, (A7.up hz).more (show 7 * j + 3 ≤ 7 * (j + 1) by omega), HPI2.out, by have := HLN2.out; omega⟩))
            have hbd : Below w7.heap.size w7 w7.drew := (Below.refl _ _).drew
            have HRT := Lib.hid (fun (Z : World) (hz : Below w7.heap.size w7 Z) => (Acc.mk (A7.up hz).b (A7.up hz).p).root (show yn + (7 * j + 3) ≤ 1000000000 by have := HJ.out; omega) fr0 (HTB.out Z ((hk7).transX (Kept.of_belowX hz))))
            rw [HRE.out hse] at HRT
            have HWZ := Lib.hid (fun (Z : World) (hz : Below w7.heap.size w7 Z) => HWAS.out Z ((hk7).transX (Kept.of_belowX hz)))
            clear HRE
            go_wp2_with fail
            refine wp_region_held_drew (S := BelS w7.drew) (by kernel_rfl) (BelS.refl _) (fun hS0 => ?_)
            refine wpAnyH_take (i := 0) (oi := _) (v := ?_) rfl (by kernel_rfl) (by kernel_rfl) (by kernel_rfl) (fun _ _ _ h => h) (Or.inl ⟨by rfl, ?_⟩) hS0 ?_
            rotate_left
            · intro W hSW
              try go_simp
              all_goals with_reducible rfl
            simp only [Act.put, List.setIfInBounds_toArray, List.set_cons_zero, List.set_cons_succ, List.getElem_toArray, List.getElem_cons_zero, List.getElem_cons_succ]
            refine wpAnyH_take (i := 1) (oi := _) (v := .bool true) rfl (by kernel_rfl) (by kernel_rfl) (by kernel_rfl) (fun _ _ _ h => h) (Or.inl ⟨by rfl, ?_⟩) hS0 ?_
            skip
            · intro W hSW
              try go_simp
              all_goals first | with_reducible rfl | (simp; done) | trace_state
            simp only [Act.put, List.setIfInBounds_toArray, List.set_cons_zero, List.set_cons_succ, List.getElem_toArray, List.getElem_cons_zero, List.getElem_cons_succ]
            refine wpAnyH_take (i := 2) (oi := _) (v := .bool true) rfl (by kernel_rfl) (by kernel_rfl) (by kernel_rfl) (fun _ _ _ h => h) (Or.inl ⟨by rfl, ?_⟩) hS0 ?_
            skip
            · intro W hSW
              try go_simp
              all_goals first | with_reducible rfl | (simp; done) | trace_state
            simp only [Act.put, List.setIfInBounds_toArray, List.set_cons_zero, List.set_cons_succ, List.getElem_toArray, List.getElem_cons_zero, List.getElem_cons_succ]
            refine wpAnyH_take (i := 3) (oi := _) (v := ?_) rfl (by kernel_rfl) (by kernel_rfl) (by kernel_rfl) (fun _ _ _ h => h) (Or.inl ⟨by rfl, ?_⟩) hS0 ?_
            rotate_left
            · intro W hSW
              try go_simp
              all_goals with_reducible rfl
            simp only [Act.put, List.setIfInBounds_toArray, List.set_cons_zero, List.set_cons_succ, List.getElem_toArray, List.getElem_cons_zero, List.getElem_cons_succ]
            refine wpAnyH_take (i := 6) (oi := _) (v := ?_) rfl (by kernel_rfl) (by kernel_rfl) (by kernel_rfl) (fun _ _ _ h => h) (Or.inl ⟨by rfl, ?_⟩) hS0 ?_
            rotate_left
            · intro W hSW
              try go_simp
              all_goals with_reducible rfl
            simp only [Act.put, List.setIfInBounds_toArray, List.set_cons_zero, List.set_cons_succ, List.getElem_toArray, List.getElem_cons_zero, List.getElem_cons_succ]
            refine wpAnyH_take (i := 7) (oi := _) (v := ?_) rfl (by kernel_rfl) (by kernel_rfl) (by kernel_rfl) (fun _ _ _ h => h) (Or.inl ⟨by rfl, ?_⟩) hS0 ?_
            rotate_left
            · intro W hSW
              have cv := HCR.out W _ (HWZ.out W (below_chain hbd hbd.size hSW))
              try go_simp
              all_goals with_reducible rfl
            simp only [Act.put, List.setIfInBounds_toArray, List.set_cons_zero, List.set_cons_succ, List.getElem_toArray, List.getElem_cons_zero, List.getElem_cons_succ]
            refine wpAnyH_ready (rs := [4]) (by kernel_rfl) (by simp) (AllReadyH.cons rfl (fun K hK => ?_) AllReadyH.nil)
            have DT := Lib.hid (HRT.out w7.drew hbd)
            go_simp
            go_wp2_with ((go_at_call 10; (with_reducible refine DT.out.mono ?_); rintro e wT ⟨vT, rfl, hoT, hbT⟩))
            have hqT := below_chain hbd hbd.size hbT
            refine hK.out _ _ hbT (fun _ => ?_)
            clear hK K DT
            refine wpAnyH_stronger (S' := BelS wT) (fun W h => below_chain hbT hbT.size h) _ _ _ _ ?_
            have hST : BelS wT wT := BelS.refl wT
            refine wpAnyH_take (i := 5) (oi := _) (v := ?_) rfl (by kernel_rfl) (by kernel_rfl) (by kernel_rfl) (fun _ _ _ h => h) (Or.inl ⟨by rfl, ?_⟩) hST ?_
            rotate_left
            · intro W hSW
              have cv := HCR.out W _ (hoT.rd.up (Nat.le_refl _) hSW)
              try go_simp
              all_goals with_reducible rfl
            simp only [Act.put, List.setIfInBounds_toArray, List.set_cons_zero, List.set_cons_succ, List.getElem_toArray, List.getElem_cons_zero, List.getElem_cons_succ]
            refine wpAnyH_take (i := 8) (oi := _) (v := .bool false) rfl (by kernel_rfl) (by kernel_rfl) (by kernel_rfl) (fun _ _ _ h => h) (Or.inl ⟨by rfl, ?_⟩) hST ?_
            skip
            · intro W hSW
              try go_simp
              all_goals first | with_reducible rfl | (simp; done) | trace_state
            simp only [Act.put, List.setIfInBounds_toArray, List.set_cons_zero, List.set_cons_succ, List.getElem_toArray, List.getElem_cons_zero, List.getElem_cons_succ]
            refine wpAnyH_take (i := 9) (oi := _) (v := .bool false) rfl (by kernel_rfl) (by kernel_rfl) (by kernel_rfl) (fun _ _ _ h => h) (Or.inl ⟨by rfl, ?_⟩) hST ?_
            skip
            · intro W hSW
              try go_simp
              all_goals first | with_reducible rfl | (simp; done) | trace_state
            simp only [Act.put, List.setIfInBounds_toArray, List.set_cons_zero, List.set_cons_succ, List.getElem_toArray, List.getElem_cons_zero, List.getElem_cons_succ]
            refine wpAnyH_take (i := 10) (oi := _) (v := .bool false) rfl (by kernel_rfl) (by kernel_rfl) (by kernel_rfl) (fun _ _ _ h => h) (Or.inl ⟨by rfl, ?_⟩) hST ?_
            skip
            · intro W hSW
              try go_simp
              all_goals first | with_reducible rfl | (simp; done) | trace_state
            simp only [Act.put, List.setIfInBounds_toArray, List.set_cons_zero, List.set_cons_succ, List.getElem_toArray, List.getElem_cons_zero, List.getElem_cons_succ]
            refine wpAnyH_take (i := 11) (oi := _) (v := ?_) rfl (by kernel_rfl) (by kernel_rfl) (by kernel_rfl) (fun _ _ _ h => h) (Or.inl ⟨by rfl, ?_⟩) hST ?_
            rotate_left
            · intro W hSW
              try go_simp
              all_goals with_reducible rfl
            simp only [Act.put, List.setIfInBounds_toArray, List.set_cons_zero, List.set_cons_succ, List.getElem_toArray, List.getElem_cons_zero, List.getElem_cons_succ]
            refine wpAnyH_ready (rs := [12]) (by kernel_rfl) (by simp) (AllReadyH.cons rfl (fun K hK => ?_) AllReadyH.nil)
            have DP := Lib.hid (HPO.out wT hqT)
            go_simp
            go_wp2_with ((go_at_call 15; (with_reducible refine DP.out.mono ?_); rintro e wP ⟨rfl, hbP⟩))
            have hqP := below_chain hqT hqT.size hbP
            refine hK.out _ _ hbP (fun _ => ?_)
            clear hK K DP
            refine wpAnyH_stronger (S' := BelS wP) (fun W h => below_chain hbP hbP.size h) _ _ _ _ ?_
            have hSP : BelS wP wP := BelS.refl wP
            refine wpAnyH_take (i := 13) (oi := _) (v := ?_) rfl (by kernel_rfl) (by kernel_rfl) (by kernel_rfl) (fun _ _ _ h => h) (Or.inl ⟨by rfl, ?_⟩) hSP ?_
            rotate_left
            · intro W hSW
              try go_simp
              all_goals with_reducible rfl
            simp only [Act.put, List.setIfInBounds_toArray, List.set_cons_zero, List.set_cons_succ, List.getElem_toArray, List.getElem_cons_zero, List.getElem_cons_succ]
            refine wpAnyH_take (i := 14) (oi := _) (v := ?_) rfl (by kernel_rfl) (by kernel_rfl) (by kernel_rfl) (fun _ _ _ h => h) (Or.inl ⟨by rfl, ?_⟩) hSP ?_
            rotate_left
            · intro W hSW
              try go_simp
              all_goals with_reducible rfl
            simp only [Act.put, List.setIfInBounds_toArray, List.set_cons_zero, List.set_cons_succ, List.getElem_toArray, List.getElem_cons_zero, List.getElem_cons_succ]
            refine wpAnyH_done (by kernel_rfl) ?_ _
            have hfin := HNX.out _ hqP
            clear HNX HPO
            go_wp2_with fail
            exact ⟨⟨j + 1, by omega, by simp, hfin⟩, by simp [intOf]; omega⟩
        · by_cases k2 : kd = 2
          · subst k2
            have HRE : Hid ((settleM R id seq fr by_ late).1 ≠ 0 → (settleM R id seq fr by_ late).2 = R) := Lib.hid settle_no
            have HPI2 := HPS
            have HLN2 := Lib.hid (Nat.le_trans (settle_len R id seq fr by_ late) (show R.length + 7 ≤ ps.length + 7 * (j + 1) by have := HRL.out; omega))
            generalize settleM R id seq fr by_ late = AM at *
            obtain ⟨se, R2⟩ := AM
            dsimp only at HST HRE HPI2 HLN2
            clear HAH HKC HKP HRI HPA HPS
            go_wp2_with fail
            refine HST.out.mono ?_
            rintro e w7 ⟨rfl, A7, hk7⟩
            clear b0 b1 b2 b3 b4 b5 b6 b7 b8 b9 b10 b11 b12 b13 b14 b15 b16 b17 b18 HST HA6
            by_cases hse : se = 0
            · subst hse
              have HPO : Hid (∀ Z, Below w7.heap.size w7 Z → Calls Tryz.prog 15 #[.pointer (some ⟨yb, 0, none⟩)] Z fun e w' => e = .returned (.bool true) ∧ Below Z.heap.size Z w') := Lib.hid fun Z hz => fpool_any (y := ⟨yb, ym, yn, yf⟩) (A7.up hz) (show yn + (7 * j + 7) ≤ 1000000000 by have := HJ.out; omega) HPI2.out (by have := HLN2.out; have := HJ.out; omega)
              have HNX := Lib.hid (fun (Z : World) (hz : Below w7.heap.size w7 Z) => (show FPI w1 ⟨yb, ym, yn, yf⟩ ps.length (j + 1) Z from ⟨_, (A7.up hz).more (show 7 * j + 7 ≤ 7 * (j + 1) by omega), HPI2.out, by have := HLN2.out; omega⟩))
              have hbd : Below w7.heap.size w7 w7.drew := (Below.refl _ _).drew
              go_wp2_with fail
              refine wp_region_held_drew (S := BelS w7.drew) (by kernel_rfl) (BelS.refl _) (fun hS0 => ?_)
              refine wpAnyH_take (i := 0) (oi := _) (v := ?_) rfl (by kernel_rfl) (by kernel_rfl) (by kernel_rfl) (fun _ _ _ h => h) (Or.inl ⟨by rfl, ?_⟩) hS0 ?_
              rotate_left
              · intro W hSW
                try go_simp
                all_goals with_reducible rfl
              simp only [Act.put, List.setIfInBounds_toArray, List.set_cons_zero, List.set_cons_succ, List.getElem_toArray, List.getElem_cons_zero, List.getElem_cons_succ]
              refine wpAnyH_take (i := 1) (oi := _) (v := .bool false) rfl (by kernel_rfl) (by kernel_rfl) (by kernel_rfl) (fun _ _ _ h => h) (Or.inl ⟨by rfl, ?_⟩) hS0 ?_
              skip
              · intro W hSW
                try go_simp
                all_goals first | with_reducible rfl | (simp; done) | trace_state
              simp only [Act.put, List.setIfInBounds_toArray, List.set_cons_zero, List.set_cons_succ, List.getElem_toArray, List.getElem_cons_zero, List.getElem_cons_succ]
              refine wpAnyH_take (i := 2) (oi := _) (v := .bool false) rfl (by kernel_rfl) (by kernel_rfl) (by kernel_rfl) (fun _ _ _ h => h) (Or.inl ⟨by rfl, ?_⟩) hS0 ?_
              skip
              · intro W hSW
                try go_simp
                all_goals first | with_reducible rfl | (simp; done) | trace_state
              simp only [Act.put, List.setIfInBounds_toArray, List.set_cons_zero, List.set_cons_succ, List.getElem_toArray, List.getElem_cons_zero, List.getElem_cons_succ]
              refine wpAnyH_take (i := 3) (oi := _) (v := undef) rfl (by kernel_rfl) (by kernel_rfl) (by kernel_rfl) (fun _ _ _ h => h) (Or.inr ⟨by rfl, rfl⟩) hS0 ?_
              simp only [Act.put, List.setIfInBounds_toArray, List.set_cons_zero, List.set_cons_succ, List.getElem_toArray, List.getElem_cons_zero, List.getElem_cons_succ]
              refine wpAnyH_take (i := 4) (oi := _) (v := undef) rfl (by kernel_rfl) (by kernel_rfl) (by kernel_rfl) (fun _ _ _ h => h) (Or.inr ⟨by rfl, rfl⟩) hS0 ?_
              simp only [Act.put, List.setIfInBounds_toArray, List.set_cons_zero, List.set_cons_succ, List.getElem_toArray, List.getElem_cons_zero, List.getElem_cons_succ]
              refine wpAnyH_take (i := 5) (oi := _) (v := undef) rfl (by kernel_rfl) (by kernel_rfl) (by kernel_rfl) (fun _ _ _ h => h) (Or.inr ⟨by rfl, rfl⟩) hS0 ?_
              simp only [Act.put, List.setIfInBounds_toArray, List.set_cons_zero, List.set_cons_succ, List.getElem_toArray, List.getElem_cons_zero, List.getElem_cons_succ]
              refine wpAnyH_take (i := 6) (oi := _) (v := undef) rfl (by kernel_rfl) (by kernel_rfl) (by kernel_rfl) (fun _ _ _ h => h) (Or.inr ⟨by rfl, rfl⟩) hS0 ?_
              simp only [Act.put, List.setIfInBounds_toArray, List.set_cons_zero, List.set_cons_succ, List.getElem_toArray, List.getElem_cons_zero, List.getElem_cons_succ]
              refine wpAnyH_take (i := 7) (oi := _) (v := undef) rfl (by kernel_rfl) (by kernel_rfl) (by kernel_rfl) (fun _ _ _ h => h) (Or.inr ⟨by rfl, rfl⟩) hS0 ?_
              simp only [Act.put, List.setIfInBounds_toArray, List.set_cons_zero, List.set_cons_succ, List.getElem_toArray, List.getElem_cons_zero, List.getElem_cons_succ]
              refine wpAnyH_take (i := 8) (oi := _) (v := undef) rfl (by kernel_rfl) (by kernel_rfl) (by kernel_rfl) (fun _ _ _ h => h) (Or.inr ⟨by rfl, rfl⟩) hS0 ?_
              simp only [Act.put, List.setIfInBounds_toArray, List.set_cons_zero, List.set_cons_succ, List.getElem_toArray, List.getElem_cons_zero, List.getElem_cons_succ]
              refine wpAnyH_take (i := 9) (oi := _) (v := .bool false) rfl (by kernel_rfl) (by kernel_rfl) (by kernel_rfl) (fun _ _ _ h => h) (Or.inl ⟨by rfl, ?_⟩) hS0 ?_
              skip
              · intro W hSW
                try go_simp
                all_goals first | with_reducible rfl | (simp; done) | trace_state
              simp only [Act.put, List.setIfInBounds_toArray, List.set_cons_zero, List.set_cons_succ, List.getElem_toArray, List.getElem_cons_zero, List.getElem_cons_succ]
              refine wpAnyH_take (i := 10) (oi := _) (v := .bool false) rfl (by kernel_rfl) (by kernel_rfl) (by kernel_rfl) (fun _ _ _ h => h) (Or.inl ⟨by rfl, ?_⟩) hS0 ?_
              skip
              · intro W hSW
                try go_simp
                all_goals first | with_reducible rfl | (simp; done) | trace_state
              simp only [Act.put, List.setIfInBounds_toArray, List.set_cons_zero, List.set_cons_succ, List.getElem_toArray, List.getElem_cons_zero, List.getElem_cons_succ]
              refine wpAnyH_take (i := 11) (oi := _) (v := ?_) rfl (by kernel_rfl) (by kernel_rfl) (by kernel_rfl) (fun _ _ _ h => h) (Or.inl ⟨by rfl, ?_⟩) hS0 ?_
              rotate_left
              · intro W hSW
                try go_simp
                all_goals with_reducible rfl
              simp only [Act.put, List.setIfInBounds_toArray, List.set_cons_zero, List.set_cons_succ, List.getElem_toArray, List.getElem_cons_zero, List.getElem_cons_succ]
              refine wpAnyH_ready (rs := [12]) (by kernel_rfl) (by simp) (AllReadyH.cons rfl (fun K hK => ?_) AllReadyH.nil)
              have DP := Lib.hid (HPO.out w7.drew hbd)
              go_simp
              go_wp2_with ((go_at_call 15; (with_reducible refine DP.out.mono ?_); rintro e wP ⟨rfl, hbP⟩))
              have hqP := below_chain hbd hbd.size hbP
              refine hK.out _ _ hbP (fun _ => ?_)
              clear hK K DP
              refine wpAnyH_stronger (S' := BelS wP) (fun W h => below_chain hbP hbP.size h) _ _ _ _ ?_
              have hSP : BelS wP wP := BelS.refl wP
              refine wpAnyH_take (i := 13) (oi := _) (v := ?_) rfl (by kernel_rfl) (by kernel_rfl) (by kernel_rfl) (fun _ _ _ h => h) (Or.inl ⟨by rfl, ?_⟩) hSP ?_
              rotate_left
              · intro W hSW
                try go_simp
                all_goals with_reducible rfl
              simp only [Act.put, List.setIfInBounds_toArray, List.set_cons_zero, List.set_cons_succ, List.getElem_toArray, List.getElem_cons_zero, List.getElem_cons_succ]
              refine wpAnyH_take (i := 14) (oi := _) (v := ?_) rfl (by kernel_rfl) (by kernel_rfl) (by kernel_rfl) (fun _ _ _ h => h) (Or.inl ⟨by rfl, ?_⟩) hSP ?_
              rotate_left
              · intro W hSW
                try go_simp
                all_goals with_reducible rfl
              simp only [Act.put, List.setIfInBounds_toArray, List.set_cons_zero, List.set_cons_succ, List.getElem_toArray, List.getElem_cons_zero, List.getElem_cons_succ]
              refine wpAnyH_done (by kernel_rfl) ?_ _
              have hfin := HNX.out _ hqP
              clear HNX HPO
              go_wp2_with fail
              exact ⟨⟨j + 1, by omega, by simp, hfin⟩, by simp [intOf]; omega⟩
            · have hne : (se != 0) = true := by simpa using hse
              have HPO : Hid (∀ Z, Below w7.heap.size w7 Z → Calls Tryz.prog 15 #[.pointer (some ⟨yb, 0, none⟩)] Z fun e w' => e = .returned (.bool true) ∧ Below Z.heap.size Z w') := Lib.hid fun Z hz => fpool_any (y := ⟨yb, ym, yn, yf⟩) (A7.up hz) (show yn + (7 * j + 7) ≤ 1000000000 by have := HJ.out; omega) HPI2.out (by have := HLN2.out; have := HJ.out; omega)
              have HNX := Lib.hid (fun (Z : World) (hz : Below w7.heap.size w7 Z) => (show FPI w1 ⟨yb, ym, yn, yf⟩ ps.length (j + 1) Z from ⟨_, (A7.up hz).more (show 7 * j + 7 ≤ 7 * (j + 1) by omega), HPI2.out, by have := HLN2.out; omega⟩))
              have hbd : Below w7.heap.size w7 w7.drew := (Below.refl _ _).drew
              have HRT := Lib.hid (fun (Z : World) (hz : Below w7.heap.size w7 Z) => (Acc.mk (A7.up hz).b (A7.up hz).p).root (show yn + (7 * j + 7) ≤ 1000000000 by have := HJ.out; omega) fr0 (HTB.out Z ((hk7).transX (Kept.of_belowX hz))))
              rw [HRE.out hse] at HRT
              have HWZ := Lib.hid (fun (Z : World) (hz : Below w7.heap.size w7 Z) => HWAS.out Z ((hk7).transX (Kept.of_belowX hz)))
              clear HRE
              go_wp2_with fail
              refine wp_region_held_drew (S := BelS w7.drew) (by kernel_rfl) (BelS.refl _) (fun hS0 => ?_)
              refine wpAnyH_take (i := 0) (oi := _) (v := ?_) rfl (by kernel_rfl) (by kernel_rfl) (by kernel_rfl) (fun _ _ _ h => h) (Or.inl ⟨by rfl, ?_⟩) hS0 ?_
              rotate_left
              · intro W hSW
                try go_simp
                all_goals with_reducible rfl
              simp only [Act.put, List.setIfInBounds_toArray, List.set_cons_zero, List.set_cons_succ, List.getElem_toArray, List.getElem_cons_zero, List.getElem_cons_succ]
              refine wpAnyH_take (i := 1) (oi := _) (v := .bool true) rfl (by kernel_rfl) (by kernel_rfl) (by kernel_rfl) (fun _ _ _ h => h) (Or.inl ⟨by rfl, ?_⟩) hS0 ?_
              skip
              · intro W hSW
                try go_simp
                all_goals first | with_reducible rfl | (simp; done) | trace_state
              simp only [Act.put, List.setIfInBounds_toArray, List.set_cons_zero, List.set_cons_succ, List.getElem_toArray, List.getElem_cons_zero, List.getElem_cons_succ]
              refine wpAnyH_take (i := 2) (oi := _) (v := .bool true) rfl (by kernel_rfl) (by kernel_rfl) (by kernel_rfl) (fun _ _ _ h => h) (Or.inl ⟨by rfl, ?_⟩) hS0 ?_
              skip
              · intro W hSW
                try go_simp
                all_goals first | with_reducible rfl | (simp; done) | trace_state
              simp only [Act.put, List.setIfInBounds_toArray, List.set_cons_zero, List.set_cons_succ, List.getElem_toArray, List.getElem_cons_zero, List.getElem_cons_succ]
              refine wpAnyH_take (i := 3) (oi := _) (v := ?_) rfl (by kernel_rfl) (by kernel_rfl) (by kernel_rfl) (fun _ _ _ h => h) (Or.inl ⟨by rfl, ?_⟩) hS0 ?_
              rotate_left
              · intro W hSW
                try go_simp
                all_goals with_reducible rfl
              simp only [Act.put, List.setIfInBounds_toArray, List.set_cons_zero, List.set_cons_succ, List.getElem_toArray, List.getElem_cons_zero, List.getElem_cons_succ]
              refine wpAnyH_take (i := 6) (oi := _) (v := ?_) rfl (by kernel_rfl) (by kernel_rfl) (by kernel_rfl) (fun _ _ _ h => h) (Or.inl ⟨by rfl, ?_⟩) hS0 ?_
              rotate_left
              · intro W hSW
                try go_simp
                all_goals with_reducible rfl
              simp only [Act.put, List.setIfInBounds_toArray, List.set_cons_zero, List.set_cons_succ, List.getElem_toArray, List.getElem_cons_zero, List.getElem_cons_succ]
              refine wpAnyH_take (i := 7) (oi := _) (v := ?_) rfl (by kernel_rfl) (by kernel_rfl) (by kernel_rfl) (fun _ _ _ h => h) (Or.inl ⟨by rfl, ?_⟩) hS0 ?_
              rotate_left
              · intro W hSW
                have cv := HCR.out W _ (HWZ.out W (below_chain hbd hbd.size hSW))
                try go_simp
                all_goals with_reducible rfl
              simp only [Act.put, List.setIfInBounds_toArray, List.set_cons_zero, List.set_cons_succ, List.getElem_toArray, List.getElem_cons_zero, List.getElem_cons_succ]
              refine wpAnyH_ready (rs := [4]) (by kernel_rfl) (by simp) (AllReadyH.cons rfl (fun K hK => ?_) AllReadyH.nil)
              have DT := Lib.hid (HRT.out w7.drew hbd)
              go_simp
              go_wp2_with ((go_at_call 10; (with_reducible refine DT.out.mono ?_); rintro e wT ⟨vT, rfl, hoT, hbT⟩))
              have hqT := below_chain hbd hbd.size hbT
              refine hK.out _ _ hbT (fun _ => ?_)
              clear hK K DT
              refine wpAnyH_stronger (S' := BelS wT) (fun W h => below_chain hbT hbT.size h) _ _ _ _ ?_
              have hST : BelS wT wT := BelS.refl wT
              refine wpAnyH_take (i := 5) (oi := _) (v := ?_) rfl (by kernel_rfl) (by kernel_rfl) (by kernel_rfl) (fun _ _ _ h => h) (Or.inl ⟨by rfl, ?_⟩) hST ?_
              rotate_left
              · intro W hSW
                have cv := HCR.out W _ (hoT.rd.up (Nat.le_refl _) hSW)
                try go_simp
                all_goals with_reducible rfl
              simp only [Act.put, List.setIfInBounds_toArray, List.set_cons_zero, List.set_cons_succ, List.getElem_toArray, List.getElem_cons_zero, List.getElem_cons_succ]
              refine wpAnyH_take (i := 8) (oi := _) (v := .bool false) rfl (by kernel_rfl) (by kernel_rfl) (by kernel_rfl) (fun _ _ _ h => h) (Or.inl ⟨by rfl, ?_⟩) hST ?_
              skip
              · intro W hSW
                try go_simp
                all_goals first | with_reducible rfl | (simp; done) | trace_state
              simp only [Act.put, List.setIfInBounds_toArray, List.set_cons_zero, List.set_cons_succ, List.getElem_toArray, List.getElem_cons_zero, List.getElem_cons_succ]
              refine wpAnyH_take (i := 9) (oi := _) (v := .bool false) rfl (by kernel_rfl) (by kernel_rfl) (by kernel_rfl) (fun _ _ _ h => h) (Or.inl ⟨by rfl, ?_⟩) hST ?_
              skip
              · intro W hSW
                try go_simp
                all_goals first | with_reducible rfl | (simp; done) | trace_state
              simp only [Act.put, List.setIfInBounds_toArray, List.set_cons_zero, List.set_cons_succ, List.getElem_toArray, List.getElem_cons_zero, List.getElem_cons_succ]
              refine wpAnyH_take (i := 10) (oi := _) (v := .bool false) rfl (by kernel_rfl) (by kernel_rfl) (by kernel_rfl) (fun _ _ _ h => h) (Or.inl ⟨by rfl, ?_⟩) hST ?_
              skip
              · intro W hSW
                try go_simp
                all_goals first | with_reducible rfl | (simp; done) | trace_state
              simp only [Act.put, List.setIfInBounds_toArray, List.set_cons_zero, List.set_cons_succ, List.getElem_toArray, List.getElem_cons_zero, List.getElem_cons_succ]
              refine wpAnyH_take (i := 11) (oi := _) (v := ?_) rfl (by kernel_rfl) (by kernel_rfl) (by kernel_rfl) (fun _ _ _ h => h) (Or.inl ⟨by rfl, ?_⟩) hST ?_
              rotate_left
              · intro W hSW
                try go_simp
                all_goals with_reducible rfl
              simp only [Act.put, List.setIfInBounds_toArray, List.set_cons_zero, List.set_cons_succ, List.getElem_toArray, List.getElem_cons_zero, List.getElem_cons_succ]
              refine wpAnyH_ready (rs := [12]) (by kernel_rfl) (by simp) (AllReadyH.cons rfl (fun K hK => ?_) AllReadyH.nil)
              have DP := Lib.hid (HPO.out wT hqT)
              go_simp
              go_wp2_with ((go_at_call 15; (with_reducible refine DP.out.mono ?_); rintro e wP ⟨rfl, hbP⟩))
              have hqP := below_chain hqT hqT.size hbP
              refine hK.out _ _ hbP (fun _ => ?_)
              clear hK K DP
              refine wpAnyH_stronger (S' := BelS wP) (fun W h => below_chain hbP hbP.size h) _ _ _ _ ?_
              have hSP : BelS wP wP := BelS.refl wP
              refine wpAnyH_take (i := 13) (oi := _) (v := ?_) rfl (by kernel_rfl) (by kernel_rfl) (by kernel_rfl) (fun _ _ _ h => h) (Or.inl ⟨by rfl, ?_⟩) hSP ?_
              rotate_left
              · intro W hSW
                try go_simp
                all_goals with_reducible rfl
              simp only [Act.put, List.setIfInBounds_toArray, List.set_cons_zero, List.set_cons_succ, List.getElem_toArray, List.getElem_cons_zero, List.getElem_cons_succ]
              refine wpAnyH_take (i := 14) (oi := _) (v := ?_) rfl (by kernel_rfl) (by kernel_rfl) (by kernel_rfl) (fun _ _ _ h => h) (Or.inl ⟨by rfl, ?_⟩) hSP ?_
              rotate_left
              · intro W hSW
                try go_simp
                all_goals with_reducible rfl
              simp only [Act.put, List.setIfInBounds_toArray, List.set_cons_zero, List.set_cons_succ, List.getElem_toArray, List.getElem_cons_zero, List.getElem_cons_succ]
              refine wpAnyH_done (by kernel_rfl) ?_ _
              have hfin := HNX.out _ hqP
              clear HNX HPO
              go_wp2_with fail
              exact ⟨⟨j + 1, by omega, by simp, hfin⟩, by simp [intOf]; omega⟩
          · by_cases k3 : kd = 3
            · subst k3
              have HPI2 := Lib.hid (HPI.out.commit id seq [1])
              have HLN2 := Lib.hid (Nat.le_trans (setL_len (kPl wCommit id seq) [1] R) (show R.length + 1 ≤ ps.length + 7 * (j + 1) by have := HRL.out; omega))
              generalize hKC : kPl wCommit id seq = KC at *
              clear hKC HAH HST HRI HPA HPS
              go_wp2_with fail
              refine (HKC.out _).mono ?_
              rintro e w6 ⟨rfl, hb6⟩
              have hal : Below w6.heap.size w6 (w6.alloc (.cells #[.int .u8 1] 5)) := (Below.refl _ _).alloc (Nat.le_refl _) _
              have hb68 := below_chain hb6 hb6.size hal
              have A8 := HA6.out.up hb68
              have hk8 := Kept.of_belowX hb68
              have hrd := rd_one w6 1
              rw [show bval 1 = .int .u8 1 from rfl] at hrd
              have HS8 := Lib.hid (A8.set (show yn + 7 * j < maxLen by have := HJ.out; unfold maxLen; omega) KC HKP.out _ [1] hrd)
              generalize (if pairB (KC, [1]) = true then (0 : Int) else 60) = sv at *
              clear b0 b1 b2 b3 b4 b5 b6 b7 b8 b9 b10 b11 b12 b13 b14 b15 b16 b17 b18 HKC HA6 hb6 hal A8 hrd hb68
              go_wp2_with fail
              refine HS8.out.mono ?_
              rintro e w7 ⟨rfl, A7, hk7'⟩
              have hk7 := hk8.transX hk7'
              clear HS8 hk7' hk8
              have HPO : Hid (∀ Z, Below w7.heap.size w7 Z → Calls Tryz.prog 15 #[.pointer (some ⟨yb, 0, none⟩)] Z fun e w' => e = .returned (.bool true) ∧ Below Z.heap.size Z w') := Lib.hid fun Z hz => fpool_any (y := ⟨yb, ym, yn, yf⟩) (A7.up hz) (show yn + (7 * j + 1) ≤ 1000000000 by have := HJ.out; omega) HPI2.out (by have := HLN2.out; have := HJ.out; omega)
              have HNX := Lib.hid (fun (Z : World) (hz : Below w7.heap.size w7 Z) => (show FPI w1 ⟨yb, ym, yn, yf⟩ ps.length (j + 1) Z from ⟨_, (A7.up hz).more (show 7 * j + 1 ≤ 7 * (j + 1) by omega), HPI2.out, by have := HLN2.out; omega⟩))
              have hbd : Below w7.heap.size w7 w7.drew := (Below.refl _ _).drew
              go_wp2_with fail
              refine wp_region_held_drew (S := BelS w7.drew) (by kernel_rfl) (BelS.refl _) (fun hS0 => ?_)
              refine wpAnyH_take (i := 0) (oi := _) (v := ?_) rfl (by kernel_rfl) (by kernel_rfl) (by kernel_rfl) (fun _ _ _ h => h) (Or.inl ⟨by rfl, ?_⟩) hS0 ?_
              rotate_left
              · intro W hSW
                try go_simp
                all_goals with_reducible rfl
              simp only [Act.put, List.setIfInBounds_toArray, List.set_cons_zero, List.set_cons_succ, List.getElem_toArray, List.getElem_cons_zero, List.getElem_cons_succ]
              refine wpAnyH_take (i := 1) (oi := _) (v := .bool false) rfl (by kernel_rfl) (by kernel_rfl) (by kernel_rfl) (fun _ _ _ h => h) (Or.inl ⟨by rfl, ?_⟩) hS0 ?_
              skip
              · intro W hSW
                try go_simp
                all_goals first | with_reducible rfl | (simp; done) | trace_state
              simp only [Act.put, List.setIfInBounds_toArray, List.set_cons_zero, List.set_cons_succ, List.getElem_toArray, List.getElem_cons_zero, List.getElem_cons_succ]
              refine wpAnyH_take (i := 2) (oi := _) (v := .bool false) rfl (by kernel_rfl) (by kernel_rfl) (by kernel_rfl) (fun _ _ _ h => h) (Or.inl ⟨by rfl, ?_⟩) hS0 ?_
              skip
              · intro W hSW
                try go_simp
                all_goals first | with_reducible rfl | (simp; done) | trace_state
              simp only [Act.put, List.setIfInBounds_toArray, List.set_cons_zero, List.set_cons_succ, List.getElem_toArray, List.getElem_cons_zero, List.getElem_cons_succ]
              refine wpAnyH_take (i := 3) (oi := _) (v := undef) rfl (by kernel_rfl) (by kernel_rfl) (by kernel_rfl) (fun _ _ _ h => h) (Or.inr ⟨by rfl, rfl⟩) hS0 ?_
              simp only [Act.put, List.setIfInBounds_toArray, List.set_cons_zero, List.set_cons_succ, List.getElem_toArray, List.getElem_cons_zero, List.getElem_cons_succ]
              refine wpAnyH_take (i := 4) (oi := _) (v := undef) rfl (by kernel_rfl) (by kernel_rfl) (by kernel_rfl) (fun _ _ _ h => h) (Or.inr ⟨by rfl, rfl⟩) hS0 ?_
              simp only [Act.put, List.setIfInBounds_toArray, List.set_cons_zero, List.set_cons_succ, List.getElem_toArray, List.getElem_cons_zero, List.getElem_cons_succ]
              refine wpAnyH_take (i := 5) (oi := _) (v := undef) rfl (by kernel_rfl) (by kernel_rfl) (by kernel_rfl) (fun _ _ _ h => h) (Or.inr ⟨by rfl, rfl⟩) hS0 ?_
              simp only [Act.put, List.setIfInBounds_toArray, List.set_cons_zero, List.set_cons_succ, List.getElem_toArray, List.getElem_cons_zero, List.getElem_cons_succ]
              refine wpAnyH_take (i := 6) (oi := _) (v := undef) rfl (by kernel_rfl) (by kernel_rfl) (by kernel_rfl) (fun _ _ _ h => h) (Or.inr ⟨by rfl, rfl⟩) hS0 ?_
              simp only [Act.put, List.setIfInBounds_toArray, List.set_cons_zero, List.set_cons_succ, List.getElem_toArray, List.getElem_cons_zero, List.getElem_cons_succ]
              refine wpAnyH_take (i := 7) (oi := _) (v := undef) rfl (by kernel_rfl) (by kernel_rfl) (by kernel_rfl) (fun _ _ _ h => h) (Or.inr ⟨by rfl, rfl⟩) hS0 ?_
              simp only [Act.put, List.setIfInBounds_toArray, List.set_cons_zero, List.set_cons_succ, List.getElem_toArray, List.getElem_cons_zero, List.getElem_cons_succ]
              refine wpAnyH_take (i := 8) (oi := _) (v := undef) rfl (by kernel_rfl) (by kernel_rfl) (by kernel_rfl) (fun _ _ _ h => h) (Or.inr ⟨by rfl, rfl⟩) hS0 ?_
              simp only [Act.put, List.setIfInBounds_toArray, List.set_cons_zero, List.set_cons_succ, List.getElem_toArray, List.getElem_cons_zero, List.getElem_cons_succ]
              refine wpAnyH_take (i := 9) (oi := _) (v := .bool false) rfl (by kernel_rfl) (by kernel_rfl) (by kernel_rfl) (fun _ _ _ h => h) (Or.inl ⟨by rfl, ?_⟩) hS0 ?_
              skip
              · intro W hSW
                try go_simp
                all_goals first | with_reducible rfl | (simp; done) | trace_state
              simp only [Act.put, List.setIfInBounds_toArray, List.set_cons_zero, List.set_cons_succ, List.getElem_toArray, List.getElem_cons_zero, List.getElem_cons_succ]
              refine wpAnyH_take (i := 10) (oi := _) (v := .bool false) rfl (by kernel_rfl) (by kernel_rfl) (by kernel_rfl) (fun _ _ _ h => h) (Or.inl ⟨by rfl, ?_⟩) hS0 ?_
              skip
              · intro W hSW
                try go_simp
                all_goals first | with_reducible rfl | (simp; done) | trace_state
              simp only [Act.put, List.setIfInBounds_toArray, List.set_cons_zero, List.set_cons_succ, List.getElem_toArray, List.getElem_cons_zero, List.getElem_cons_succ]
              refine wpAnyH_take (i := 11) (oi := _) (v := ?_) rfl (by kernel_rfl) (by kernel_rfl) (by kernel_rfl) (fun _ _ _ h => h) (Or.inl ⟨by rfl, ?_⟩) hS0 ?_
              rotate_left
              · intro W hSW
                try go_simp
                all_goals with_reducible rfl
              simp only [Act.put, List.setIfInBounds_toArray, List.set_cons_zero, List.set_cons_succ, List.getElem_toArray, List.getElem_cons_zero, List.getElem_cons_succ]
              refine wpAnyH_ready (rs := [12]) (by kernel_rfl) (by simp) (AllReadyH.cons rfl (fun K hK => ?_) AllReadyH.nil)
              have DP := Lib.hid (HPO.out w7.drew hbd)
              go_simp
              go_wp2_with ((go_at_call 15; (with_reducible refine DP.out.mono ?_); rintro e wP ⟨rfl, hbP⟩))
              have hqP := below_chain hbd hbd.size hbP
              refine hK.out _ _ hbP (fun _ => ?_)
              clear hK K DP
              refine wpAnyH_stronger (S' := BelS wP) (fun W h => below_chain hbP hbP.size h) _ _ _ _ ?_
              have hSP : BelS wP wP := BelS.refl wP
              refine wpAnyH_take (i := 13) (oi := _) (v := ?_) rfl (by kernel_rfl) (by kernel_rfl) (by kernel_rfl) (fun _ _ _ h => h) (Or.inl ⟨by rfl, ?_⟩) hSP ?_
              rotate_left
              · intro W hSW
                try go_simp
                all_goals with_reducible rfl
              simp only [Act.put, List.setIfInBounds_toArray, List.set_cons_zero, List.set_cons_succ, List.getElem_toArray, List.getElem_cons_zero, List.getElem_cons_succ]
              refine wpAnyH_take (i := 14) (oi := _) (v := ?_) rfl (by kernel_rfl) (by kernel_rfl) (by kernel_rfl) (fun _ _ _ h => h) (Or.inl ⟨by rfl, ?_⟩) hSP ?_
              rotate_left
              · intro W hSW
                try go_simp
                all_goals with_reducible rfl
              simp only [Act.put, List.setIfInBounds_toArray, List.set_cons_zero, List.set_cons_succ, List.getElem_toArray, List.getElem_cons_zero, List.getElem_cons_succ]
              refine wpAnyH_done (by kernel_rfl) ?_ _
              have hfin := HNX.out _ hqP
              clear HNX HPO
              go_wp2_with fail
              exact ⟨⟨j + 1, by omega, by simp, hfin⟩, by simp [intOf]; omega⟩
            · have HPI2 := HPI
              have HLN2 := Lib.hid (show R.length ≤ ps.length + 7 * (j + 1) by have := HRL.out; omega)
              have A7 := HA6.out
              have hk7 := Kept.refl wA
              clear HAH HST HKC HKP HRI HPA HPS
              have HPO : Hid (∀ Z, Below wA.heap.size wA Z → Calls Tryz.prog 15 #[.pointer (some ⟨yb, 0, none⟩)] Z fun e w' => e = .returned (.bool true) ∧ Below Z.heap.size Z w') := Lib.hid fun Z hz => fpool_any (y := ⟨yb, ym, yn, yf⟩) (A7.up hz) (show yn + (7 * j) ≤ 1000000000 by have := HJ.out; omega) HPI2.out (by have := HLN2.out; have := HJ.out; omega)
              have HNX := Lib.hid (fun (Z : World) (hz : Below wA.heap.size wA Z) => (show FPI w1 ⟨yb, ym, yn, yf⟩ ps.length (j + 1) Z from ⟨_, (A7.up hz).more (show 7 * j ≤ 7 * (j + 1) by omega), HPI2.out, by have := HLN2.out; omega⟩))
              have hbd : Below wA.heap.size wA wA.drew := (Below.refl _ _).drew
              go_wp2_with fail
              refine wp_region_held_drew (S := BelS wA.drew) (by kernel_rfl) (BelS.refl _) (fun hS0 => ?_)
              refine wpAnyH_take (i := 0) (oi := _) (v := ?_) rfl (by kernel_rfl) (by kernel_rfl) (by kernel_rfl) (fun _ _ _ h => h) (Or.inl ⟨by rfl, ?_⟩) hS0 ?_
              rotate_left
              · intro W hSW
                try go_simp
                all_goals with_reducible rfl
              simp only [Act.put, List.setIfInBounds_toArray, List.set_cons_zero, List.set_cons_succ, List.getElem_toArray, List.getElem_cons_zero, List.getElem_cons_succ]
              refine wpAnyH_take (i := 1) (oi := _) (v := .bool false) rfl (by kernel_rfl) (by kernel_rfl) (by kernel_rfl) (fun _ _ _ h => h) (Or.inl ⟨by rfl, ?_⟩) hS0 ?_
              skip
              · intro W hSW
                try go_simp
                all_goals first | with_reducible rfl | (simp; done) | trace_state
              simp only [Act.put, List.setIfInBounds_toArray, List.set_cons_zero, List.set_cons_succ, List.getElem_toArray, List.getElem_cons_zero, List.getElem_cons_succ]
              refine wpAnyH_take (i := 2) (oi := _) (v := .bool false) rfl (by kernel_rfl) (by kernel_rfl) (by kernel_rfl) (fun _ _ _ h => h) (Or.inl ⟨by rfl, ?_⟩) hS0 ?_
              skip
              · intro W hSW
                try go_simp
                all_goals first | with_reducible rfl | (simp; done) | trace_state
              simp only [Act.put, List.setIfInBounds_toArray, List.set_cons_zero, List.set_cons_succ, List.getElem_toArray, List.getElem_cons_zero, List.getElem_cons_succ]
              refine wpAnyH_take (i := 3) (oi := _) (v := undef) rfl (by kernel_rfl) (by kernel_rfl) (by kernel_rfl) (fun _ _ _ h => h) (Or.inr ⟨by rfl, rfl⟩) hS0 ?_
              simp only [Act.put, List.setIfInBounds_toArray, List.set_cons_zero, List.set_cons_succ, List.getElem_toArray, List.getElem_cons_zero, List.getElem_cons_succ]
              refine wpAnyH_take (i := 4) (oi := _) (v := undef) rfl (by kernel_rfl) (by kernel_rfl) (by kernel_rfl) (fun _ _ _ h => h) (Or.inr ⟨by rfl, rfl⟩) hS0 ?_
              simp only [Act.put, List.setIfInBounds_toArray, List.set_cons_zero, List.set_cons_succ, List.getElem_toArray, List.getElem_cons_zero, List.getElem_cons_succ]
              refine wpAnyH_take (i := 5) (oi := _) (v := undef) rfl (by kernel_rfl) (by kernel_rfl) (by kernel_rfl) (fun _ _ _ h => h) (Or.inr ⟨by rfl, rfl⟩) hS0 ?_
              simp only [Act.put, List.setIfInBounds_toArray, List.set_cons_zero, List.set_cons_succ, List.getElem_toArray, List.getElem_cons_zero, List.getElem_cons_succ]
              refine wpAnyH_take (i := 6) (oi := _) (v := undef) rfl (by kernel_rfl) (by kernel_rfl) (by kernel_rfl) (fun _ _ _ h => h) (Or.inr ⟨by rfl, rfl⟩) hS0 ?_
              simp only [Act.put, List.setIfInBounds_toArray, List.set_cons_zero, List.set_cons_succ, List.getElem_toArray, List.getElem_cons_zero, List.getElem_cons_succ]
              refine wpAnyH_take (i := 7) (oi := _) (v := undef) rfl (by kernel_rfl) (by kernel_rfl) (by kernel_rfl) (fun _ _ _ h => h) (Or.inr ⟨by rfl, rfl⟩) hS0 ?_
              simp only [Act.put, List.setIfInBounds_toArray, List.set_cons_zero, List.set_cons_succ, List.getElem_toArray, List.getElem_cons_zero, List.getElem_cons_succ]
              refine wpAnyH_take (i := 8) (oi := _) (v := undef) rfl (by kernel_rfl) (by kernel_rfl) (by kernel_rfl) (fun _ _ _ h => h) (Or.inr ⟨by rfl, rfl⟩) hS0 ?_
              simp only [Act.put, List.setIfInBounds_toArray, List.set_cons_zero, List.set_cons_succ, List.getElem_toArray, List.getElem_cons_zero, List.getElem_cons_succ]
              refine wpAnyH_take (i := 9) (oi := _) (v := .bool false) rfl (by kernel_rfl) (by kernel_rfl) (by kernel_rfl) (fun _ _ _ h => h) (Or.inl ⟨by rfl, ?_⟩) hS0 ?_
              skip
              · intro W hSW
                try go_simp
                all_goals first | with_reducible rfl | (simp; done) | trace_state
              simp only [Act.put, List.setIfInBounds_toArray, List.set_cons_zero, List.set_cons_succ, List.getElem_toArray, List.getElem_cons_zero, List.getElem_cons_succ]
              refine wpAnyH_take (i := 10) (oi := _) (v := .bool false) rfl (by kernel_rfl) (by kernel_rfl) (by kernel_rfl) (fun _ _ _ h => h) (Or.inl ⟨by rfl, ?_⟩) hS0 ?_
              skip
              · intro W hSW
                try go_simp
                all_goals first | with_reducible rfl | (simp; done) | trace_state
              simp only [Act.put, List.setIfInBounds_toArray, List.set_cons_zero, List.set_cons_succ, List.getElem_toArray, List.getElem_cons_zero, List.getElem_cons_succ]
              refine wpAnyH_take (i := 11) (oi := _) (v := ?_) rfl (by kernel_rfl) (by kernel_rfl) (by kernel_rfl) (fun _ _ _ h => h) (Or.inl ⟨by rfl, ?_⟩) hS0 ?_
              rotate_left
              · intro W hSW
                try go_simp
                all_goals with_reducible rfl
              simp only [Act.put, List.setIfInBounds_toArray, List.set_cons_zero, List.set_cons_succ, List.getElem_toArray, List.getElem_cons_zero, List.getElem_cons_succ]
              refine wpAnyH_ready (rs := [12]) (by kernel_rfl) (by simp) (AllReadyH.cons rfl (fun K hK => ?_) AllReadyH.nil)
              have DP := Lib.hid (HPO.out wA.drew hbd)
              go_simp
              go_wp2_with ((go_at_call 15; (with_reducible refine DP.out.mono ?_); rintro e wP ⟨rfl, hbP⟩))
              have hqP := below_chain hbd hbd.size hbP
              refine hK.out _ _ hbP (fun _ => ?_)
              clear hK K DP
              refine wpAnyH_stronger (S' := BelS wP) (fun W h => below_chain hbP hbP.size h) _ _ _ _ ?_
              have hSP : BelS wP wP := BelS.refl wP
              refine wpAnyH_take (i := 13) (oi := _) (v := ?_) rfl (by kernel_rfl) (by kernel_rfl) (by kernel_rfl) (fun _ _ _ h => h) (Or.inl ⟨by rfl, ?_⟩) hSP ?_
              rotate_left
              · intro W hSW
                try go_simp
                all_goals with_reducible rfl
              simp only [Act.put, List.setIfInBounds_toArray, List.set_cons_zero, List.set_cons_succ, List.getElem_toArray, List.getElem_cons_zero, List.getElem_cons_succ]
              refine wpAnyH_take (i := 14) (oi := _) (v := ?_) rfl (by kernel_rfl) (by kernel_rfl) (by kernel_rfl) (fun _ _ _ h => h) (Or.inl ⟨by rfl, ?_⟩) hSP ?_
              rotate_left
              · intro W hSW
                try go_simp
                all_goals with_reducible rfl
              simp only [Act.put, List.setIfInBounds_toArray, List.set_cons_zero, List.set_cons_succ, List.getElem_toArray, List.getElem_cons_zero, List.getElem_cons_succ]
              refine wpAnyH_done (by kernel_rfl) ?_ _
              have hfin := HNX.out _ hqP
              clear HNX HPO
              go_wp2_with fail
              exact ⟨⟨j + 1, by omega, by simp, hfin⟩, by simp [intOf]; omega⟩
      · have hjn : j = nf := by omega
        have i2 : ¬ (j : Int) < (nf : Int) := by omega
        subst hjn
        have hqf := HB1.out.trans ((AR.below (B := w.heap.size) HYM.out HB1.out.size))
        clear AR hkr
        go_wp2_with fail
        go_ret
        exact ⟨rfl, hqf⟩
end Go.Proofs.YtaafaaoioleokaaGreatDoor
