
/- What is seen through one layer, and through a branch; calls on piles that are the caller's own. The law's fixed answers about stores, walked. -/
import Derived.Test.YtohnhdandkkonaaDoorStoA0
import Derived.Test.YtohnhdandkkonaaDoorStoS0
import Derived.Test.YtohnhdandkkonaaDoorStoW0
namespace Go.Proofs.YtohnhdandkkonaaDoor
set_option maxRecDepth 100000
open Go Go.RowKit
set_option linter.unusedVariables false

/-- a branch that says just what these changes say -/
def LyrC (cs : List Chn) (y : Lyr) : Prop := ∀ s : ByteArray, s.size ≤ maxLen → y.f s = getC cs s
section
variable {ps : List Pr} {cs : List Chn} {y z : Lyr}
theorem visV_bot (h : LyrIs ps y) (s : ByteArray) : visV [y] s = getL ps s := by
  unfold visV
  rw [visD_cons, h s]
  cases getL ps s <;> rfl
theorem seen_bot (h : LyrIs ps y) (hr : Rise ps) (hs : ∀ p ∈ ps, p.1.size ≤ maxLen) (pfx : ByteArray) : SeenL pfx [y] (ps.filter (fun p => begB pfx p.1)) where
  rise := hr.filter _
  small := fun p hp => hs p (List.mem_filter.1 hp).1
  get := fun s _ => by rw [getL_filter, visV_bot h]
theorem seen_bot0 (h : LyrIs ps y) (hr : Rise ps) (hs : ∀ p ∈ ps, p.1.size ≤ maxLen) : SeenL ⟨#[]⟩ [y] ps where
  rise := hr
  small := hs
  get := fun s _ => by rw [begB_empty, visV_bot h]; rfl
theorem visV_two (h : LyrC cs y) (h2 : LyrIs ps z) (hc : ApartC cs) (s : ByteArray) (hs : s.size ≤ maxLen) : visV [y, z] s = getL (allM ps cs) s := by
  rw [getL_all _ hc]
  have : visV [y, z] s = (visD [y, z] s).getD none := rfl
  rw [this, visD_cons, h s hs]
  cases hq : getC cs s with
  | none =>
    have := visV_bot h2 s
    unfold visV at this
    simpa using this
  | some x => rfl
theorem seen_two (h : LyrC cs y) (h2 : LyrIs ps z) (hc : ApartC cs) (hr : Rise ps) (hs : ∀ p ∈ allM ps cs, p.1.size ≤ maxLen) : SeenL ⟨#[]⟩ [y, z] (allM ps cs) where
  rise := hr.all cs
  small := hs
  get := fun s hs => by rw [begB_empty, visV_two h h2 hc s hs]; rfl
theorem wrF_bot (h : LyrC cs y) (h2 : LyrIs ps z) (hc : ApartC cs) {f : LF} (hf : ∀ s : ByteArray, s.size ≤ maxLen → f s = wrF true y.f z.f (fun _ => false) s) (s : ByteArray) (hs : s.size ≤ maxLen) : f s = (getL (allM ps cs) s).map some := by
  rw [hf s hs, getL_all _ hc]
  unfold wrF
  simp only [Bool.false_eq_true, if_false]
  rw [h s hs, h2 s]
  cases getC cs s with
  | none => rfl
  | some x => cases x <;> simp [wrC]
end

/-- as LyrIs, of keys that a text can have -/
def LyrM (ps : List Pr) (y : Lyr) : Prop := ∀ s : ByteArray, s.size ≤ maxLen → y.f s = (getL ps s).map some
theorem LyrIs.m {ps : List Pr} {y : Lyr} (h : LyrIs ps y) : LyrM ps y := fun s _ => h s
theorem visV_botM {ps : List Pr} {y : Lyr} (h : LyrM ps y) (s : ByteArray) (hs : s.size ≤ maxLen) : visV [y] s = getL ps s := by
  unfold visV
  rw [visD_cons, h s hs]
  cases getL ps s <;> rfl
theorem seen_botM {ps : List Pr} {y : Lyr} (h : LyrM ps y) (hr : Rise ps) (hs : ∀ p ∈ ps, p.1.size ≤ maxLen) : SeenL ⟨#[]⟩ [y] ps where
  rise := hr
  small := hs
  get := fun s hs => by rw [begB_empty, visV_botM h s hs]; rfl

section
variable {W : World} {B : Nat} {y z : Lyr} {l : List Lyr}
theorem set_own (h : PileS W (y :: l)) (hB : B ≤ y.m) (hW : B ≤ W.heap.size) (hn : y.n < maxLen) (key : ByteArray) (hk : key.size ≤ maxLen) (v : Value) (val : List UInt8) (hr : Rd W W.heap.size v val) (hp : pairB (key, val) = true) :
    Calls Tryd.prog 8 #[.pointer (some ⟨y.b, 0, none⟩), .string key, v] W fun e w' => e = .returned (.int .i64 0) ∧ PileS w' (y.put key (some val) :: l) ∧ Below B W w' := by
  refine (set_yes h hn key hk v val hr hp).mono ?_
  rintro e w' ⟨rfl, h2, h3⟩
  exact ⟨rfl, h2, h3.below (fun k e => by rw [e]; exact hB) hW⟩
theorem del_own (h : PileS W (y :: l)) (hB : B ≤ y.m) (hW : B ≤ W.heap.size) (hn : y.n < maxLen) (key : ByteArray) (hk : key.size ≤ maxLen) :
    Calls Tryd.prog 10 #[.pointer (some ⟨y.b, 0, none⟩), .string key] W fun e w' => e = .returned (.tuple #[]) ∧ PileS w' (y.del l.isEmpty key :: l) ∧ Below B W w' := by
  refine (del_any h hn key hk).mono ?_
  rintro e w' ⟨rfl, h2, h3⟩
  exact ⟨rfl, h2, h3.below (fun k e => by rw [e]; exact hB) hW⟩
theorem write_own (h : PileS W (y :: z :: l)) (hn : z.n + y.n < maxLen) (hB : B ≤ y.m) (hB2 : B ≤ z.m) (hW : B ≤ W.heap.size) :
    Calls Tryd.prog 15 #[.pointer (some ⟨y.b, 0, none⟩)] W fun e w' => e = .returned (.tuple #[]) ∧ ∃ n f, PileS w' (⟨y.b, y.m, 0, fun _ => none⟩ :: ⟨z.b, z.m, n, f⟩ :: l) ∧ n ≤ z.n + y.n ∧ (∀ s : ByteArray, s.size ≤ maxLen → f s = wrF l.isEmpty y.f z.f (fun _ => false) s) ∧ Below B W w' := by
  refine (write_any h hn).mono ?_
  rintro e w' ⟨rfl, n, f, h2, h3, h4, h5⟩
  exact ⟨rfl, n, f, h2, h3, h4, h5.below (fun k e => by rcases e with e | e <;> rw [e] <;> assumption) hW⟩
end

/-! ### what the law's fixed answers come to -/
def kA : ByteArray := ⟨#[97]⟩
def kB : ByteArray := ⟨#[98]⟩
def kC : ByteArray := ⟨#[99]⟩
def fixPs : List Pr := [(kA, [1]), (kB, [2])]
def fixCs : List Chn := [(kA, none), (kC, some [3])]
theorem fixAll : allM fixPs fixCs = [(kB, [2]), (kC, [3])] := by decide +kernel
theorem fixApart : ApartC fixCs := by unfold ApartC fixCs; decide +kernel
theorem fixRise : Rise fixPs := by unfold Rise fixPs; decide +kernel
theorem fixOrd : ordR none fixPs = true := by decide +kernel
theorem fixSmall : ∀ p ∈ fixPs, p.1.size ≤ maxLen := by decide +kernel
theorem fixSmall2 : ∀ p ∈ allM fixPs fixCs, p.1.size ≤ maxLen := by rw [fixAll]; decide +kernel
theorem fixGet (s : ByteArray) : (fun s => if s = kA then some none else (fun s => if s = kC then some (some [3]) else (fun _ => none : LF) s) s : LF) s = getC fixCs s := by
  unfold fixCs
  rw [getC_cons, getC_cons]
  have hac : ¬ kC = kA := by decide +kernel
  by_cases h1 : s = kA
  · subst h1; simp
  · by_cases h2 : s = kC
    · subst h2
      have h5 : ¬ kA = kC := fun h => hac h.symm
      simp only [hac, h5, if_false, if_true]
    · have h3 : ¬ kA = s := fun h => h1 h.symm
      have h4 : ¬ kC = s := fun h => h2 h.symm
      simp only [h1, h2, h3, h4, if_false]; rfl
end Go.Proofs.YtohnhdandkkonaaDoor
namespace Go.Proofs.YtohnhdandkkonaaDoor
set_option maxRecDepth 100000
open Go Go.RowKit
set_option linter.unusedVariables false

set_option maxHeartbeats 8000000 in
theorem sfixed_any (w : World) : Calls Tryd.prog 7 #[] w fun e w' => e = .returned (.bool true) ∧ Below w.heap.size w w' := by
  have hA : Below w.heap.size w (w.alloc (.cells #[.int .u8 1] 5)) := (Below.refl _ _).alloc (Nat.le_refl _) _
  have hrA := rd_lit w #[.int .u8 1] [1] 1 rfl (by simp [bcells, bval]) (by simp [maxLen])
  obtain ⟨p1, hp1⟩ : ∃ p1, p1 = w.alloc (.cells #[.int .u8 1] 5) := ⟨_, rfl⟩
  rw [← hp1] at hA hrA
  have hs1 : p1.heap.size = w.heap.size + 1 := by rw [hp1]; simp
  have hB : Below p1.heap.size p1 (p1.alloc (.cells #[.int .u8 2] 5)) := (Below.refl _ _).alloc (Nat.le_refl _) _
  have hrB := rd_lit p1 #[.int .u8 2] [2] 1 rfl (by simp [bcells, bval]) (by simp [maxLen])
  obtain ⟨p2, hp2⟩ : ∃ p2, p2 = p1.alloc (.cells #[.int .u8 2] 5) := ⟨_, rfl⟩
  rw [← hp2] at hB hrB
  have hs2 : p2.heap.size = p1.heap.size + 1 := by rw [hp2]; simp
  have hC : Below p2.heap.size p2 (p2.alloc (.cells #[.string kA, .slice (some ⟨w.heap.size, 0, none⟩) 1 1, .string kB, .slice (some ⟨p1.heap.size, 0, none⟩) 1 1] 31)) := (Below.refl _ _).alloc (Nat.le_refl _) _
  have hg := heap_alloc_new p2 (.cells #[.string kA, .slice (some ⟨w.heap.size, 0, none⟩) 1 1, .string kB, .slice (some ⟨p1.heap.size, 0, none⟩) 1 1] 31)
  have hq : Below w.heap.size w (p2.alloc (.cells #[.string kA, .slice (some ⟨w.heap.size, 0, none⟩) 1 1, .string kB, .slice (some ⟨p1.heap.size, 0, none⟩) 1 1] 31)) := below_chain (below_chain hA hA.size hB) (by omega) hC
  have hrA' := ((hrA.more (Nat.le_of_eq hs1.symm)).below (below_chain hB hB.size hC)).more (Nat.le_trans hB.size hC.size)
  have hrB' := ((hrB.more (Nat.le_of_eq hs2.symm)).below hC).more hC.size
  have hP : RdP (p2.alloc (.cells #[.string kA, .slice (some ⟨w.heap.size, 0, none⟩) 1 1, .string kB, .slice (some ⟨p1.heap.size, 0, none⟩) 1 1] 31)) (p2.alloc (.cells #[.string kA, .slice (some ⟨w.heap.size, 0, none⟩) 1 1, .string kB, .slice (some ⟨p1.heap.size, 0, none⟩) 1 1] 31)).heap.size (.slice (some ⟨p2.heap.size, 0, none⟩) 2 2) fixPs := by
    refine ⟨_, _, rfl, Nat.le_refl _, by simp [maxLen], fun _ => ⟨p2.heap.size, 0, rfl, by simp, fun j hj => ?_⟩⟩
    rcases j with _ | _ | j
    · exact ⟨blk_cell hg 0, _, blk_cell hg 1, hrA'⟩
    · exact ⟨blk_cell hg 2, _, blk_cell hg 3, hrB'⟩
    · simp [fixPs] at hj; omega
  have HN := Lib.hid (new_any _ _ fixPs hP fixSmall)
  rw [hs2, hs1, hp2, hp1] at HN
  rw [hs1, hp2, hp1] at hq
  clear hA hrA hB hrB hC hg hrA' hrB' hP hs1 hs2 hp1 hp2
  go_enter Tryd.func7, Tryd.ntmps7
  go_wp2_with fail
  refine HN.out.mono ?_
  clear HN
  generalize ((w.alloc (.cells #[.int .u8 1] 5)).alloc (.cells #[.int .u8 2] 5)).alloc (.cells #[.string kA, .slice (some ⟨w.heap.size, 0, none⟩) 1 1, .string kB, .slice (some ⟨w.heap.size + 1, 0, none⟩) 1 1] 31) = W0 at hq ⊢
  rintro e w1 ⟨h1 | ⟨-, y, rfl, hyb, hym, hyn, hly, -, hp1⟩, hb1⟩
  · rw [fixOrd] at h1; cases h1.1
  obtain ⟨yb, ym, yn, yf⟩ := y
  dsimp only at hyb hym hyn ⊢
  obtain rfl : yn = 2 := hyn
  have hq1 := below_chain hq hq.size hb1
  have hyb' := Nat.le_trans hq.size hyb
  have hym' := Nat.le_trans hq.size hym
  have HLY : Hid (LyrIs fixPs ⟨yb, ym, 2, yf⟩) := Lib.hid hly
  have HBR := Lib.hid (branch_any hp1)
  clear hb1 hyb hym hly hq hp1
  go_wp2_with fail
  refine HBR.out.mono ?_
  rintro e w2 ⟨b, m, rfl, hb, hm, hp2, hb2⟩
  have hbB := Nat.le_trans hq1.size hb
  have hmB := Nat.le_trans hq1.size hm
  have hq2 := below_chain hq1 hq1.size hb2
  have hA3 : Below w2.heap.size w2 (w2.alloc (.cells #[.int .u8 3] 5)) := (Below.refl _ _).alloc (Nat.le_refl _) _
  have hr3 := (rd_lit w2 #[.int .u8 3] [3] 1 rfl (by simp [bcells, bval]) (by simp [maxLen])).more (B' := (w2.alloc (.cells #[.int .u8 3] 5)).heap.size) (by simp)
  have hq3 := below_chain hq2 hq2.size hA3
  have HSET := Lib.hid (set_own (hp2.up hA3) hmB hq3.size (by unfold maxLen; exact Nat.zero_lt_succ _) kC (by decide +kernel) _ [3] hr3 (by decide +kernel))
  clear HBR hb hm hp2 hb2 hA3 hr3 hq1 hq2
  go_wp2_with fail
  refine HSET.out.mono ?_
  clear HSET
  generalize w2.alloc (.cells #[.int .u8 3] 5) = W3 at hq3 ⊢
  rintro e w3 ⟨rfl, hp3, hb3⟩
  have hq4 := hq3.trans hb3
  have HNO := Lib.hid (set_no hp3 (by unfold maxLen; exact Nat.succ_lt_succ (Nat.zero_lt_succ _)) ⟨#[]⟩ (by decide +kernel) (.slice none 0 0) [] (Rd.nil _ _) (by decide +kernel))
  have HP3 := Lib.hid hp3
  clear hb3 hq3 hp3
  go_wp2_with fail
  refine HNO.out.mono ?_
  rintro e w4 ⟨rfl, rfl⟩
  have HDL := Lib.hid (del_own HP3.out hmB hq4.size (by unfold maxLen; exact Nat.succ_lt_succ (Nat.zero_lt_succ _)) kA (by decide +kernel))
  clear HNO
  go_wp2_with fail
  refine HDL.out.mono ?_
  clear HDL
  rintro e w5 ⟨rfl, hp5, hb5⟩
  have hq5 := hq4.trans hb5
  obtain ⟨F, hF⟩ : ∃ F : LF, F = fun s => if s = kA then some none else (fun s => if s = kC then some (some [3]) else (fun _ => none : LF) s) s := ⟨_, rfl⟩
  have hp5' : PileS w5 [⟨b, m, 2, F⟩, ⟨yb, ym, 2, yf⟩] := by rw [hF]; exact hp5
  have hFC : LyrC fixCs ⟨b, m, 2, F⟩ := fun s _ => by rw [hF]; exact fixGet s
  have hse1 : SeenL ⟨#[]⟩ [⟨yb, ym, 2, yf⟩] fixPs := seen_bot0 HLY.out fixRise fixSmall
  have hse2 : SeenL ⟨#[]⟩ [⟨b, m, 2, F⟩, ⟨yb, ym, 2, yf⟩] [(kB, [2]), (kC, [3])] := by
    have := seen_two hFC HLY.out fixApart fixRise fixSmall2
    rw [fixAll] at this; exact this
  have hs0 : (⟨#[]⟩ : ByteArray).size ≤ maxLen := by decide +kernel
  have HS1 : Hid (∀ W, Below w5.heap.size w5 W → Calls Tryd.prog 14 #[.pointer (some ⟨yb, 0, none⟩), .string ⟨#[]⟩] W fun e w' => ∃ v, e = .returned v ∧ OutP w' W.heap.size v fixPs ∧ Below W.heap.size W w') :=
    Lib.hid fun W hb => pairs_any (hp5'.tail.up hb) (by simp [sumN]) ⟨#[]⟩ hs0 hse1
  have HS2 : Hid (∀ W, Below w5.heap.size w5 W → Calls Tryd.prog 14 #[.pointer (some ⟨b, 0, none⟩), .string ⟨#[]⟩] W fun e w' => ∃ v, e = .returned v ∧ OutP w' W.heap.size v [(kB, [2]), (kC, [3])] ∧ Below W.heap.size W w') :=
    Lib.hid fun W hb => pairs_any (hp5'.up hb) (by simp [sumN]) ⟨#[]⟩ hs0 hse2
  have HP5 := Lib.hid hp5'
  have HFC := Lib.hid hFC
  clear hp5 hp5' hF hFC hse1 hse2 hs0 hb5 hq4 HP3
  go_wp2_with fail
  refine (HS1.out w5 (Below.refl _ _)).mono ?_
  rintro e w6 ⟨v6, rfl, ho6, hb6⟩
  obtain ⟨A6, c6, rfl⟩ : ∃ A c, v6 = .slice A 2 c := ho6.form
  clear ho6
  go_wp2_with fail
  refine (HS2.out w6 hb6).mono ?_
  rintro e w7 ⟨v7, rfl, ho7, hb7⟩
  obtain ⟨A7, c7, rfl⟩ : ∃ A c, v7 = .slice A 2 c := ho7.form
  have hb7' := below_chain hb6 hb6.size hb7
  clear ho7 hb7 hb6
  go_wp2_with fail
  refine (HS2.out w7 hb7').mono ?_
  rintro e w8 ⟨v8, rfl, ho8, hb8⟩
  obtain ⟨A8, c8, rfl⟩ : ∃ A c, v8 = .slice A 2 c := ho8.form
  have hb8' := below_chain hb7' hb7'.size hb8
  obtain ⟨B1, -, -, hox⟩ := ho8
  obtain ⟨g, cs, rfl, -, -, -, -, -, -, hcell, x, hcs, -⟩ := hox.at_ 1 (by decide)
  have k0 := hcell 0 (by decide)
  rw [hcs] at k0
  have k0' : w8.cell? ⟨g, 2, none⟩ = some (.string ⟨#[99]⟩) := k0
  clear hcell k0 hcs hox hb8 hb7'
  go_wp2_with fail
  have HW := Lib.hid (write_own (HP5.out.up hb8') (by unfold maxLen; show 2 + 2 < 9223372036854775807; omega) hmB hym' (below_chain hq5 hq5.size hb8').size)
  have hq8 := below_chain hq5 hq5.size hb8'
  clear HS1 HS2 HP5 k0' hb8' hq5
  refine HW.out.mono ?_
  clear HW
  rintro e w9 ⟨rfl, n, f, hp9, -, hf9, hb9⟩
  have hq9 := hq8.trans hb9
  have hLM : LyrM (allM fixPs fixCs) ⟨yb, ym, n, f⟩ := fun s hs => wrF_bot HFC.out HLY.out fixApart (f := f) (fun s hs => hf9 s hs) s hs
  have hC : visV [⟨yb, ym, n, f⟩] kC = some [3] := by rw [visV_botM hLM kC (by decide +kernel), fixAll]; decide +kernel
  have hAn : visV [⟨yb, ym, n, f⟩] kA = none := by rw [visV_botM hLM kA (by decide +kernel), fixAll]; decide +kernel
  have HG1 : Hid (Calls Tryd.prog 9 #[.pointer (some ⟨yb, 0, none⟩), .string ⟨#[99]⟩] w9 fun e w' => ∃ v, e = .returned (.tuple #[v, .bool true]) ∧ Own w' w9.heap.size v [3] ∧ Below w9.heap.size w9 w') := Lib.hid (by
    have := get_any (hp9.tail) kC (by decide +kernel)
    rw [hC] at this; exact this)
  have HG2 : Hid (∀ W, Below w9.heap.size w9 W → Calls Tryd.prog 9 #[.pointer (some ⟨yb, 0, none⟩), .string ⟨#[97]⟩] W fun e w' => ∃ v, e = .returned (.tuple #[v, .bool false]) ∧ Own w' W.heap.size v [] ∧ Below W.heap.size W w') := Lib.hid fun W hb => by
    have := get_any (hp9.tail.up hb) kA (by decide +kernel)
    rw [hAn] at this; exact this
  clear hp9 hf9 hb9 hLM hC hAn hq8
  go_wp2_with fail
  refine HG1.out.mono ?_
  rintro e w10 ⟨v10, rfl, ho10, hb10⟩
  obtain ⟨A10, c10, rfl⟩ : ∃ A c, v10 = .slice A 1 c := ho10.form
  go_wp2_with fail
  refine (HG2.out w10 hb10).mono ?_
  rintro e w11 ⟨v11, rfl, ho11, hb11⟩
  have hq11 := below_chain (below_chain hq9 hq9.size hb10) (by have := hb10.size; have := hq9.size; omega) hb11
  have hr10 := ho10.rd.up (Nat.le_refl _) hb11
  obtain ⟨_, _, hv, _, _, hp⟩ := hr10
  injection hv with hv1 hv2 hv3
  subst hv1; subst hv3
  obtain ⟨bb, oo, rfl, _, hcell⟩ := hp (by decide)
  have k0 : w11.cell? ⟨bb, oo, none⟩ = some (.int .u8 3) := hcell 0 (by decide)
  clear hcell hp hv2 ho10 ho11 hb10 hb11 HG1 HG2 hq9
  go_wp2_with fail
  go_ret
  exact ⟨rfl, hq11⟩
end Go.Proofs.YtohnhdandkkonaaDoor
