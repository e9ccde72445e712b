/- Texts joined: BankM0, PrX. -/
import Derived.Test.YtpcoonnfaoakhaaGreatDoorM09
import Derived.Test.YtpcoonnfaoakhaaGreatDoorM02
import Derived.Test.YtpcoonnfaoakhaaGreatDoorM06
import Derived.Test.YtpcoonnfaoakhaaGreatDoorM07
namespace Go.Proofs.YtpcoonnfaoakhaaGreatDoor
set_option maxRecDepth 100000
open Go
set_option linter.unusedVariables false

def balP : ByteArray := ⟨#[98, 97, 108, 47]⟩
def supP : ByteArray := ⟨#[115, 117, 112, 47]⟩
def slB : ByteArray := ⟨#[47]⟩
def kBal (a d : ByteArray) : ByteArray := ((balP ++ a) ++ slB) ++ d
def kSup (d : ByteArray) : ByteArray := supP ++ d
def identB (s : ByteArray) : Bool := identL s.data.toList
def denomB (s : ByteArray) : Bool := denomL s.data.toList
/-- the amount under a key -/
def amtU (R : List Pr) (key : ByteArray) : U4 := (fromU ((getL R key).getD [])).1
/-- an amount kept under a key; 0 is not kept -/
def keepL (key : ByteArray) (x : U4) (R : List Pr) : List Pr := putL (key, if eqB x U4.zero = true then none else some (be x.nat 32)) R

theorem data_list (a b : ByteArray) : (a ++ b).data.toList = a.data.toList ++ b.data.toList := by simp [ByteArray.data_append]
theorem kBal_list (a d : ByteArray) : (kBal a d).data.toList = [98, 97, 108, 47] ++ (a.data.toList ++ (47 :: d.data.toList)) := by
  unfold kBal
  rw [data_list, data_list, data_list]
  simp [balP, slB]
theorem identL_len2 {l : List UInt8} (h : identL l = true) : 1 ≤ l.length ∧ l.length ≤ 32 := by
  cases l with
  | nil => cases h
  | cons a r =>
    simp only [identL, Bool.and_eq_true, decide_eq_true_eq] at h
    simp only [List.length_cons]
    omega
theorem kBal_fits {a d : ByteArray} (ha : identB a = true) (hd : denomB d = true) : keyB (kBal a d) = true := by
  have h1 := identL_len2 ha
  have h2 : d.data.toList.length ≤ 160 := by
    unfold denomB denomL at hd
    simp only [Bool.and_eq_true, decide_eq_true_eq] at hd
    exact hd.1
  have h3 := congrArg List.length (kBal_list a d)
  have h4 : (kBal a d).data.toList.length = (kBal a d).size := by rw [Array.length_toList]; rfl
  rw [h4] at h3
  simp only [List.length_append, List.length_cons, List.length_nil] at h3
  simp only [keyB, Bool.and_eq_true, decide_eq_true_eq]
  omega
section
variable {R : List Pr} {key k : ByteArray} {x : U4}
theorem amt_ok (R : List Pr) (key : ByteArray) : (amtU R key).ok := fromU_ok _
theorem getL_keep : getL (keepL key x R) k = if k = key then (if eqB x U4.zero = true then none else some (be x.nat 32)) else getL R k := by
  unfold keepL
  rw [getL_putL]
theorem Rise.keep (h : Rise R) : Rise (keepL key x R) := h.put _
end

/-- what an address has -/
def balM (R : List Pr) (a d : ByteArray) : U4 := if (identB a && denomB d) = true then amtU R (kBal a d) else U4.zero
/-- how much there is -/
def supM (R : List Pr) (d : ByteArray) : U4 := if denomB d = true then amtU R (kSup d) else U4.zero
/-- the error of an address, a denomination and an amount -/
def rightM (a d : ByteArray) (x : U4) : Int := if identB a = true then (if denomB d = true then (if eqB x U4.zero = true then 70 else 0) else 41) else 40
/-- Mint and Burn: the supply and a balance, reckoned on -/
def changeM (op : U4 → U4 → U4 × Bool) (unfit : Int) (R : List Pr) (a d : ByteArray) (x : U4) : Int × List Pr :=
  if rightM a d x = 0 then
    if ((op (supM R d) x).2 && (op (balM R a d) x).2) = true then (0, keepL (kBal a d) (op (balM R a d) x).1 (keepL (kSup d) (op (supM R d) x).1 R)) else (unfit, R)
  else (rightM a d x, R)
def mintM := changeM addU 10
def burnM := changeM subU 71
def sendM (R : List Pr) (a b d : ByteArray) (x : U4) : Int × List Pr :=
  if rightM a d x = 0 then
    if identB b = true then
      if (subU (balM R a d) x).2 = true then
        if a = b then (0, R)
        else if (addU (balM R b d) x).2 = true then (0, keepL (kBal b d) (addU (balM R b d) x).1 (keepL (kBal a d) (subU (balM R a d) x).1 R))
        else (10, R)
      else (71, R)
    else (40, R)
  else (rightM a d x, R)
section
variable {R : List Pr} {a b d : ByteArray} {x : U4} {op : U4 → U4 → U4 × Bool} {u : Int}
theorem balM_ok (R : List Pr) (a d : ByteArray) : (balM R a d).ok := by
  unfold balM; split
  · exact amt_ok _ _
  · exact zero_ok
theorem rightM_zero (h : rightM a d x = 0) : identB a = true ∧ denomB d = true ∧ eqB x U4.zero = false := by
  unfold rightM at h
  split at h
  · split at h
    · split at h
      · cases h
      · next h1 h2 h3 => exact ⟨h1, h2, by simpa using h3⟩
    · cases h
  · cases h
theorem Rise.change (h : Rise R) : Rise (changeM op u R a d x).2 := by
  unfold changeM
  split
  · split
    · exact h.keep.keep
    · exact h
  · exact h
theorem Rise.send (h : Rise R) : Rise (sendM R a b d x).2 := by
  unfold sendM
  split
  · split
    · split
      · split
        · exact h
        · split
          · exact h.keep.keep
          · exact h
      · exact h
    · exact h
  · exact h
end
end Go.Proofs.YtpcoonnfaoakhaaGreatDoor
namespace Go.Proofs.YtpcoonnfaoakhaaGreatDoor
set_option maxRecDepth 100000
open Go
set_option linter.unusedVariables false

section
variable {R : List Pr} {a b c d e key k : ByteArray} {x y : U4} {op : U4 → U4 → U4 × Bool} {u : Int}
end

/-! ### a key put into a list in order, as a permutation -/
theorem putG_perm (c : Chn) (v : List UInt8) (hv : c.2.getD [] = v) : ∀ (l : List Pr), (putG c false l).Perm ((c.1, v) :: l.filter (fun p => !decide (p.1 = c.1)))
  | [] => by simp [putG, hv]
  | p :: l => by
    unfold putG
    cases hl : ltS p.1 c.1 with
    | true =>
      have hne := ltS_ne hl
      simp only [hne, Bool.not_true, Bool.and_false, Bool.or_false, if_false, Bool.false_eq_true, List.nil_append, List.singleton_append]
      rw [List.filter_cons_of_pos (by simp [hne])]
      exact ((putG_perm c v hv l).cons p).trans (List.Perm.swap _ _ _)
    | false =>
      simp only [Bool.not_false, Bool.and_true, Bool.or_true, if_true, List.singleton_append, List.cons_append]
      rw [putG_true, hv]
      by_cases e : p.1 = c.1
      · rw [if_pos e, List.filter_cons_of_neg (by simp [e])]; exact List.Perm.refl _
      · rw [if_neg e, List.filter_cons_of_pos (by simp [e])]; exact List.Perm.refl _
theorem putL_perm (key : ByteArray) (o : Option (List UInt8)) (l : List Pr) : (putL (key, o) l).Perm ((match o with | none => [] | some v => [(key, v)]) ++ l.filter (fun p => !decide (p.1 = key))) := by
  unfold putL
  cases o with
  | none => simp only [Option.isNone_none]; rw [putG_true]; exact List.Perm.refl _
  | some v => exact putG_perm (key, some v) v rfl l
/-! ### sums -/
/-- the sum of the numbers under the keys that f takes -/
def sumF (f : ByteArray → Bool) (l : List Pr) : Nat := ((l.filter (fun p => f p.1)).map (fun p => (fromU p.2).1.nat)).sum
def oneF (f : ByteArray → Bool) (key : ByteArray) (o : Option (List UInt8)) : Nat := match o with | none => 0 | some v => if f key = true then (fromU v).1.nat else 0
/-! ### what the bank alone has written -/
/-- each value is the 32 bytes of a number that is not 0 -/
def CanonL (l : List Pr) : Prop := ∀ p ∈ l, ∃ x : U4, x.ok ∧ eqB x U4.zero = false ∧ p.2 = be x.nat 32
theorem CanonL.keep {l : List Pr} (h : CanonL l) (key : ByteArray) {x : U4} (hx : x.ok) : CanonL (keepL key x l) := by
  intro p hp
  unfold keepL at hp
  have hp2 := (putL_perm key _ l).mem_iff.1 hp
  rcases List.mem_append.1 hp2 with hp | hp
  · by_cases h0 : eqB x U4.zero = true
    · rw [if_pos h0] at hp; cases hp
    · rw [if_neg h0] at hp
      rw [List.mem_singleton.1 hp]
      exact ⟨x, hx, by simpa using h0, rfl⟩
  · exact h p (List.mem_filter.1 hp).1
end Go.Proofs.YtpcoonnfaoakhaaGreatDoor
namespace Go.Proofs.YtpcoonnfaoakhaaGreatDoor
set_option maxRecDepth 100000
open Go Go.RowKit
set_option linter.unusedVariables false
variable {w w' : World} {B B0 : Nat}

theorem Tryz.infoPairL : (Tryz.prog.info? 48).map (fun i => (i.zero, i.size, i.bytes)) = some (some (.agg #[.string ⟨#[]⟩, .slice none 0 0]), 2, 40) := by kernel_rfl
/-- what a pair's two cells say -/
def PrC (B0 : Nat) (w : World) (c : List Value) (p : Pr) : Prop := ∃ v, c = [.string p.1, v] ∧ RdS w B0 v p.2
theorem PrC.grow {c : List Value} {p : Pr} {E : TypeId} (h : PrC B0 w c p) (hg : Grow w B0 E w') (h1 : 5 ≠ E) : PrC B0 w' c p := by
  obtain ⟨v, e, q⟩ := h
  exact ⟨v, e, q.grow hg h1⟩
theorem PrC.up {c : List Value} {p : Pr} (h : PrC B0 w c p) (hb : Below w.heap.size w w') : PrC B0 w' c p := by
  obtain ⟨v, e, q⟩ := h
  exact ⟨v, e, q.up hb⟩
theorem PrC.len {c : List Value} {p : Pr} (h : PrC B0 w c p) : c.length = 2 := by obtain ⟨v, e, _⟩ := h; rw [e]; rfl
theorem PrC.one {c : List Value} {p : Pr} (h : PrC B0 w c p) : ∀ u ∈ c, u.oneCell' = true := by
  obtain ⟨v, e, q⟩ := h
  obtain ⟨A, k, rfl⟩ := q.1.form
  subst e
  intro u hu
  simp only [List.mem_cons, List.not_mem_nil, or_false] at hu
  rcases hu with rfl | rfl <;> rfl
/-- pairs of the call's own -/
abbrev OwnP (B0 : Nat) (w : World) (B : Nat) (v : Value) (ps : List Pr) : Prop := OwnX 48 2 (PrC B0) w B v ps
theorem OwnP.up {v : Value} {ps : List Pr} (h : OwnP B0 w B v ps) (hb : Below w.heap.size w w') : OwnP B0 w' B v ps := OwnX.up h hb fun c a hc => hc.up hb
theorem OwnP.rdP {v : Value} {ps : List Pr} (h : OwnP B0 w B v ps) : RdP w w.heap.size v ps := by
  obtain ⟨A, c, rfl⟩ := h.form
  by_cases h0 : ps.length = 0
  · obtain ⟨cs, hr, _⟩ := h
    rcases hr.2 with ⟨e, _⟩ | ⟨g, cap, cur, hv, hb, hg, hn, hm, hs, ht⟩
    · injection e with _ _ e3
      exact ⟨A, c, rfl, by omega, by subst e3; simp [maxLen], fun h => by omega⟩
    · injection hv with _ _ e3
      exact ⟨A, c, rfl, by omega, by omega, fun h => by omega⟩
  · obtain ⟨b, cs, rfl, -, h1, h2, -, hlt, -⟩ := h.at_ 0 (by omega)
    refine ⟨_, _, rfl, h1, h2, fun _ => ⟨b, 0, rfl, hlt, fun j hj => ?_⟩⟩
    obtain ⟨b', cs', e, -, -, -, -, hlt', -, hcell, v, he, q⟩ := h.at_ j hj
    injection e with e
    injection e with e _
    subst e; subst he
    have c0 := hcell 0 (by omega)
    have c1 := hcell 1 (by omega)
    rw [Nat.zero_add]
    exact ⟨by simpa using c0, v, by simpa using c1, q.1⟩
theorem pairCells_get {W : World} {g : Nat} {x0 x1 : Value} {E : TypeId} (h : W.heap[g]? = some (.cells #[x0, x1] E (0, 0))) (j : Nat) (hj : j < 2) : W.cell? ⟨g, j, none⟩ = [x0, x1][j]? := by
  rw [blk_cell h j]
  simp
end Go.Proofs.YtpcoonnfaoakhaaGreatDoor
