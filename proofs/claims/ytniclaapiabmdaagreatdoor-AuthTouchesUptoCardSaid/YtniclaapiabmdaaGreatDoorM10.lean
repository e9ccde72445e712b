/- Texts joined: BankA0, BankD, BankDs, Sto1, BankE. -/
import Derived.Test.YtniclaapiabmdaaGreatDoorM07
import Derived.Test.YtniclaapiabmdaaGreatDoorM08
import Derived.Test.YtniclaapiabmdaaGreatDoorM06
import Derived.Test.YtniclaapiabmdaaGreatDoorM09
import Derived.Deep.RegionHeldLaw
import Derived.Lib.Strings
import Derived.Lib.Slices
namespace Go.Proofs.YtniclaapiabmdaaGreatDoor
set_option maxRecDepth 100000
open Go Go.RowKit
set_option linter.unusedVariables false

theorem txt_add (a b : ByteArray) (h : a.size + b.size ≤ 9223372036854775807) (w : World) : (Op.stringOp .add a b).run Tryz.prog w = .ok (.string (a ++ b)) w := run_string_add_sum (P := Tryz.prog) (w := w) a b h
set_option maxHeartbeats 1000000 in
theorem balKey_any (a d : ByteArray) (w : World) (ha : a.size ≤ 100000000) (hd : d.size ≤ 100000000) : Calls Tryz.prog 46 #[.string a, .string d] w fun e w' => e = .returned (.string (kBal a d)) ∧ w = w' := by
  have s1 : balP.size = 4 := rfl
  have s2 : slB.size = 1 := rfl
  have h1 := fun W => txt_add balP a (by rw [s1]; omega) W
  have h2 := fun W => txt_add (balP ++ a) slB (by rw [ByteArray.size_append, s1, s2]; omega) W
  have h3 := fun W => txt_add ((balP ++ a) ++ slB) d (by rw [ByteArray.size_append, ByteArray.size_append, s1, s2]; omega) W
  unfold kBal
  unfold balP slB at *
  go_enter Tryz.func46, Tryz.ntmps46
  go_wp2
  go_ret
  exact ⟨rfl, rfl⟩
/-- the amount under a key, as it is seen -/
def amtV (l : List Lyr) (key : ByteArray) : U4 := (fromU ((visV l key).getD [])).1
theorem amtV_seen {l : List Lyr} {R : List Pr} (h : SeenL ⟨#[]⟩ l R) {key : ByteArray} (hk : key.size ≤ maxLen) : amtV l key = amtU R key := by
  unfold amtV amtU
  rw [h.get key hk, begB_empty, if_pos rfl]
set_option maxHeartbeats 2000000 in
theorem amount_any {w : World} {l : List Lyr} (h : PileS w l) (key : ByteArray) (hk : key.size ≤ maxLen) :
    Calls Tryz.prog 45 #[topV l, .string key] w fun e w' => e = .returned (amtV l key).val ∧ Below w.heap.size w w' := by
  have hG := fun (W : World) (hb : Below w.heap.size w W) => get_any (h.up hb) key hk
  have hF := fun (v : Value) (W : World) (hr : Rd W W.heap.size v ((visV l key).getD [])) => from_any v _ W hr
  unfold amtV
  obtain ⟨p, hp⟩ : ∃ p, topV l = .pointer p := by cases l <;> exact ⟨_, rfl⟩
  rw [hp] at hG ⊢
  have HG := Lib.hid hG
  have HF := Lib.hid hF
  clear hG hF h hp
  generalize (visV l key).getD [] = b at *
  generalize (visV l key).isSome = t at *
  obtain ⟨X, hX⟩ : ∃ X : U4, X = (fromU b).1 := ⟨_, rfl⟩
  obtain ⟨E, hE⟩ : ∃ E : Int, E = (fromU b).2 := ⟨_, rfl⟩
  rw [← hX, ← hE] at HF
  rw [← hX]
  clear hX hE
  unfold U4.val U4.cells at *
  go_enter Tryz.func45, Tryz.ntmps45
  go_wp2_with fail
  have ha0 : Below w.heap.size w (w.alloc (.cells #[.int .u64 0, .int .u64 0, .int .u64 0, .int .u64 0] 25)) := (Below.refl _ _).alloc (Nat.le_refl _) _
  refine (HG.out _ ha0).mono ?_
  rintro e w1 ⟨v1, rfl, ho1, hb1⟩
  have hk0 := heap_alloc_new w (.cells #[.int .u64 0, .int .u64 0, .int .u64 0, .int .u64 0] 25)
  have hk1 := (hb1.block w.heap.size (Array.getElem?_eq_some_iff.1 hk0).1).trans hk0
  replace hb1 := below_chain ha0 ha0.size hb1
  have HC := Lib.hid (HF.out v1 w1 ho1.rd)
  obtain ⟨A1, c1, rfl⟩ := ho1.form
  clear ho1
  go_wp2_with fail
  refine HC.out.mono ?_
  rintro e w2 ⟨rfl, hb2⟩
  have hk2 := (hb2.block w.heap.size (Array.getElem?_eq_some_iff.1 hk1).1).trans hk1
  have hq := below_chain hb1 hb1.size hb2
  clear hk0 hk1
  have hk3 : LBlk (w2.alloc (.cells #[.int .u64 X.a, .int .u64 X.b, .int .u64 X.c, .int .u64 X.d] 25)) w.heap.size U4.zero.cells := LBlk.alloc hk2 _
  have hq3 : Below w.heap.size w (w2.alloc (.cells #[.int .u64 X.a, .int .u64 X.b, .int .u64 X.c, .int .u64 X.d] 25)) := hq.alloc hq.size _
  obtain ⟨z0, z1, z2, z3⟩ := hk3.all
  have y0 := blk_free hk3 0
  have y1 := blk_free hk3 1
  have y2 := blk_free hk3 2
  have y3 := blk_free hk3 3
  have hk4 := LBlk.set4 (s := U4.zero) hk3 X
  obtain ⟨d0, d1, d2, d3⟩ := hk4.all
  have HD := Lib.hid (⟨d0, d1, d2, d3⟩ : _ ∧ _ ∧ _ ∧ _)
  clear hk2 hk3 hk4 d0 d1 d2 d3
  go_wp2_with fail
  obtain ⟨d0, d1, d2, d3⟩ := HD.out
  refine bodyPost_ret (v := .agg #[.int .u64 X.a, .int .u64 X.b, .int .u64 X.c, .int .u64 X.d]) ?_ rfl ⟨rfl, ?_⟩
  · simp [results, Tryz.results45, go_sem, d0, d1, d2, d3]
  · exact (((hq3.setCell (Nat.le_refl _) _).setCell (Nat.le_refl _) _).setCell (Nat.le_refl _) _).setCell (Nat.le_refl _) _

/-- an amount kept in a layer -/
def Lyr.keep (y : Lyr) (bot : Bool) (key : ByteArray) (x : U4) : Lyr := if eqB x U4.zero = true then y.del bot key else y.put key (some (be x.nat 32))
set_option maxHeartbeats 2000000 in
theorem keep_any {w : World} {y : Lyr} {l : List Lyr} (h : PileS w (y :: l)) (hn : y.n < maxLen) (key : ByteArray) (hk : keyB key = true) (x : U4) (hx : x.ok) :
    Calls Tryz.prog 90 #[.pointer (some ⟨y.b, 0, none⟩), .string key, x.val] w fun e w' => e = .returned (.tuple #[]) ∧ PileS w' (y.keep l.isEmpty key x :: l) ∧ Chg w w' (fun k => k = y.m) := by
  have hks : key.size ≤ maxLen := by
    simp only [keyB, Bool.and_eq_true, decide_eq_true_eq] at hk
    unfold maxLen; omega
  have hZ := fun W => zero_any x W
  have hpb : pairB (key, be x.nat 32) = true := by simp [pairB, hk, be_length]
  have HP := Lib.hid h
  have HX := Lib.hid hx
  unfold Lyr.keep
  cases h0 : eqB x U4.zero with
  | true =>
    rw [h0] at hZ
    have HZ := Lib.hid hZ
    clear hZ h0 h
    unfold U4.val U4.cells at *
    go_enter Tryz.func90, Tryz.ntmps90
    go_wp2_with fail
    have ha0 : Below w.heap.size w (w.alloc (.cells x.cells 25)) := (Below.refl _ _).alloc (Nat.le_refl _) _
    unfold U4.cells at ha0
    refine (HZ.out _).mono ?_
    rintro e w1 ⟨rfl, hb1⟩
    replace hb1 := below_chain ha0 ha0.size hb1
    have HD := Lib.hid (del_any (HP.out.up hb1) hn key hks)
    go_wp2_with fail
    refine HD.out.mono ?_
    rintro e w2 ⟨rfl, hp2, hc2⟩
    go_wp2_with fail
    refine bodyPost_ret (results_none rfl _ _ _) rfl ?_
    exact ⟨rfl, by simpa using hp2, (Chg.of_below hb1 _).trans' hc2⟩
  | false =>
    rw [h0] at hZ
    have HZ := Lib.hid hZ
    have HB := Lib.hid (fun W => bytes_any x W hx)
    clear hZ h0 h
    unfold U4.val U4.cells at *
    go_enter Tryz.func90, Tryz.ntmps90
    go_wp2_with fail
    have ha0 : Below w.heap.size w (w.alloc (.cells x.cells 25)) := (Below.refl _ _).alloc (Nat.le_refl _) _
    unfold U4.cells at ha0
    refine (HZ.out _).mono ?_
    rintro e w1 ⟨rfl, hb1⟩
    have hk0 := heap_alloc_new w (.cells x.cells 25)
    unfold U4.cells at hk0
    have hk1 := (hb1.block w.heap.size (Array.getElem?_eq_some_iff.1 hk0).1).trans hk0
    clear hk0
    obtain ⟨z0, z1, z2, z3⟩ := LBlk.all (s := x) hk1
    replace hb1 := below_chain ha0 ha0.size hb1
    go_wp2_with fail
    refine (HB.out _).mono ?_
    rintro e w2 ⟨v2, rfl, ho2, hb2⟩
    have hq2 := below_chain hb1 hb1.size hb2
    have HS := Lib.hid (set_yes (HP.out.up hq2) hn key hks v2 (be x.nat 32) ho2.rd hpb)
    obtain ⟨A2, c2, rfl⟩ := ho2.form' (be_length x.nat 32)
    clear ho2
    go_wp2_with fail
    refine HS.out.mono ?_
    rintro e w3 ⟨rfl, hp3, hc3⟩
    go_wp2_with fail
    go_end0
    exact ⟨rfl, by simpa using hp3, (Chg.of_below hq2 _).trans' hc3⟩
end Go.Proofs.YtniclaapiabmdaaGreatDoor
namespace Go.Proofs.YtniclaapiabmdaaGreatDoor
set_option maxRecDepth 100000
open Go Go.RowKit
set_option linter.unusedVariables false

theorem SeenL.keep {y : Lyr} {l : List Lyr} {R : List Pr} (h : SeenL ⟨#[]⟩ (y :: l) R) {key : ByteArray} (hk : key.size ≤ maxLen) (x : U4) : SeenL ⟨#[]⟩ (y.keep l.isEmpty key x :: l) (keepL key x R) where
  rise := h.rise.keep
  small := fun p hp => by
    unfold keepL at hp
    rcases List.mem_append.1 ((putL_perm key _ R).mem_iff.1 hp) with hp | hp
    · split at hp
      · cases hp
      · rw [List.mem_singleton.1 hp]; exact hk
    · exact h.small p (List.mem_filter.1 hp).1
  get := fun s hs => by
    have h0 := h.get s hs
    rw [begB_empty, if_pos rfl] at h0 ⊢
    rw [getL_keep]
    unfold visV at h0 ⊢
    rw [visD_cons] at h0 ⊢
    have hv : (y.keep l.isEmpty key x).f s = if s = key then (if eqB x U4.zero = true then (if l.isEmpty = true then none else some none) else some (some (be x.nat 32))) else y.f s := by
      unfold Lyr.keep Lyr.del
      by_cases hx : eqB x U4.zero = true
      · rw [if_pos hx, if_pos hx]
        by_cases hl : l.isEmpty = true
        · rw [if_pos hl, if_pos hl]; rfl
        · rw [if_neg hl, if_neg hl]; rfl
      · rw [if_neg hx, if_neg hx]; rfl
    rw [hv]
    by_cases e : s = key
    · rw [if_pos e, if_pos e]
      by_cases hx : eqB x U4.zero = true
      · rw [if_pos hx, if_pos hx]
        cases l with
        | nil => rfl
        | cons a l => rfl
      · rw [if_neg hx, if_neg hx]; rfl
    · rw [if_neg e, if_neg e]; exact h0
theorem Lyr.keep_form (y : Lyr) (bot : Bool) (key : ByteArray) (x : U4) : ∃ n f, y.keep bot key x = ⟨y.b, y.m, n, f⟩ ∧ n ≤ y.n + 1 := by
  unfold Lyr.keep Lyr.del
  split
  · split
    · exact ⟨_, _, rfl, Nat.le_succ _⟩
    · exact ⟨_, _, rfl, Nat.le_refl _⟩
  · exact ⟨_, _, rfl, Nat.le_refl _⟩

set_option maxHeartbeats 2000000 in
theorem right_any (a d : ByteArray) (x : U4) (w : World) (ha : a.size ≤ maxLen) (hd : d.size ≤ maxLen) :
    Calls Tryz.prog 87 #[.string a, .string d, x.val] w fun e w' => e = .returned (.int .i64 (rightM a d x)) ∧ Below w.heap.size w w' := by
  have HI := Lib.hid (fun W => ident_any a W ha)
  have HD := Lib.hid (fun W => denom_any d W hd)
  have HZ := Lib.hid (fun W => zero_any x W)
  unfold rightM
  show Calls Tryz.prog 87 _ _ fun e w' => e = .returned (.int .i64 (if identL a.data.toList = true then (if denomL d.data.toList = true then (if eqB x U4.zero = true then 70 else 0) else 41) else 40)) ∧ _
  have ha0 : Below w.heap.size w (w.alloc (.cells x.cells 25)) := (Below.refl _ _).alloc (Nat.le_refl _) _
  have hk0 := heap_alloc_new w (.cells x.cells 25)
  obtain ⟨z0, z1, z2, z3⟩ := LBlk.all (s := x) hk0
  clear hk0
  unfold U4.val U4.cells at *
  cases h1 : identL a.data.toList with
  | false =>
    rw [h1] at HI
    clear h1
    go_enter Tryz.func87, Tryz.ntmps87
    go_wp2_with fail
    refine (HI.out _).mono ?_
    rintro e w1 ⟨rfl, rfl⟩
    go_wp2_with fail
    go_ret
    exact ⟨rfl, ha0⟩
  | true =>
    rw [h1] at HI
    clear h1
    cases h2 : denomL d.data.toList with
    | false =>
      rw [h2] at HD
      clear h2
      go_enter Tryz.func87, Tryz.ntmps87
      go_wp2_with fail
      refine (HI.out _).mono ?_
      rintro e w1 ⟨rfl, rfl⟩
      go_wp2_with fail
      refine (HD.out _).mono ?_
      rintro e w2 ⟨rfl, m, rfl⟩
      go_wp2_with fail
      go_ret
      exact ⟨rfl, below_drewN' ha0 _⟩
    | true =>
      rw [h2] at HD
      clear h2
      cases h3 : eqB x U4.zero with
      | false =>
        rw [h3] at HZ
        clear h3
        go_enter Tryz.func87, Tryz.ntmps87
        go_wp2_with fail
        refine (HI.out _).mono ?_
        rintro e w1 ⟨rfl, rfl⟩
        go_wp2_with fail
        refine (HD.out _).mono ?_
        rintro e w2 ⟨rfl, m, rfl⟩
        have hq := below_drewN' ha0 m
        go_wp2_with fail
        refine (HZ.out _).mono ?_
        rintro e w3 ⟨rfl, hb3⟩
        have hq3 := below_chain hq hq.size hb3
        go_wp2_with fail
        go_ret
        exact ⟨rfl, hq3⟩
      | true =>
        rw [h3] at HZ
        clear h3
        go_enter Tryz.func87, Tryz.ntmps87
        go_wp2_with fail
        refine (HI.out _).mono ?_
        rintro e w1 ⟨rfl, rfl⟩
        go_wp2_with fail
        refine (HD.out _).mono ?_
        rintro e w2 ⟨rfl, m, rfl⟩
        have hq := below_drewN' ha0 m
        go_wp2_with fail
        refine (HZ.out _).mono ?_
        rintro e w3 ⟨rfl, hb3⟩
        have hq3 := below_chain hq hq.size hb3
        go_wp2_with fail
        go_ret
        exact ⟨rfl, hq3⟩

/-- what an address has, as it is seen -/
def balV (l : List Lyr) (a d : ByteArray) : U4 := if (identB a && denomB d) = true then amtV l (kBal a d) else U4.zero
def supV (l : List Lyr) (d : ByteArray) : U4 := if denomB d = true then amtV l (kSup d) else U4.zero
theorem keyB_size {s : ByteArray} (h : keyB s = true) : s.size ≤ maxLen := by
  simp only [keyB, Bool.and_eq_true, decide_eq_true_eq] at h
  unfold maxLen; omega
theorem balV_seen {l : List Lyr} {R : List Pr} (h : SeenL ⟨#[]⟩ l R) (a d : ByteArray) : balV l a d = balM R a d := by
  unfold balV balM
  by_cases e : (identB a && denomB d) = true
  · rw [if_pos e, if_pos e]
    simp only [Bool.and_eq_true] at e
    exact amtV_seen h (keyB_size (kBal_fits e.1 e.2))
  · rw [if_neg e, if_neg e]
end Go.Proofs.YtniclaapiabmdaaGreatDoor
namespace Go.Proofs.YtniclaapiabmdaaGreatDoor
set_option maxRecDepth 100000
open Go Go.RowKit
set_option linter.unusedVariables false

set_option maxHeartbeats 2000000 in
theorem bal_any {w : World} {l : List Lyr} (h : PileS w l) (a d : ByteArray) (ha : a.size ≤ 100000000) (hd : d.size ≤ 100000000) :
    Calls Tryz.prog 12 #[topV l, .string a, .string d] w fun e w' => e = .returned (balV l a d).val ∧ Below w.heap.size w w' := by
  have HI := Lib.hid (fun W => ident_any a W (by unfold maxLen; omega))
  have ha0 : Below w.heap.size w (w.alloc (.cells #[.int .u64 0, .int .u64 0, .int .u64 0, .int .u64 0] 25)) := (Below.refl _ _).alloc (Nat.le_refl _) _
  have hk0 := heap_alloc_new w (.cells #[.int .u64 0, .int .u64 0, .int .u64 0, .int .u64 0] 25)
  have HK0 := Lib.hid hk0
  clear hk0
  have HD := Lib.hid (fun W => denom_any d W (by unfold maxLen; omega))
  obtain ⟨p, hp⟩ : ∃ p, topV l = .pointer p := by cases l <;> exact ⟨_, rfl⟩
  have HK := Lib.hid (fun W => balKey_any a d W ha hd)
  unfold balV
  cases h0 : identB a with
  | false =>
    have h0' : identL a.data.toList = false := h0
    rw [h0'] at HI
    rw [hp]
    clear h0 h0' h hp
    show Calls Tryz.prog 12 _ _ fun e w' => e = .returned U4.zero.val ∧ _
    go_enter Tryz.func12, Tryz.ntmps12
    go_wp2_with fail
    refine (HI.out _).mono ?_
    rintro e w1 ⟨rfl, rfl⟩
    have hk3 : LBlk (w.alloc (.cells #[.int .u64 0, .int .u64 0, .int .u64 0, .int .u64 0] 25)) w.heap.size U4.zero.cells := HK0.out
    obtain ⟨z0, z1, z2, z3⟩ := hk3.all
    have y0 := blk_free hk3 0
    have y1 := blk_free hk3 1
    have y2 := blk_free hk3 2
    have y3 := blk_free hk3 3
    have hk4 := LBlk.set4 (s := U4.zero) hk3 U4.zero
    obtain ⟨d0, d1, d2, d3⟩ := hk4.all
    have HD := Lib.hid (⟨d0, d1, d2, d3⟩ : _ ∧ _ ∧ _ ∧ _)
    clear hk3 hk4 d0 d1 d2 d3
    go_wp2_with fail
    obtain ⟨d0, d1, d2, d3⟩ := HD.out
    refine bodyPost_ret (v := .agg #[.int .u64 0, .int .u64 0, .int .u64 0, .int .u64 0]) ?_ rfl ⟨rfl, ?_⟩
    · simp [results, Tryz.results12, go_sem, d0, d1, d2, d3]
    · first | exact ha0 | exact (((ha0.setCell (Nat.le_refl _) _).setCell (Nat.le_refl _) _).setCell (Nat.le_refl _) _).setCell (Nat.le_refl _) _
  | true =>
    have h0' : identL a.data.toList = true := h0
    rw [h0'] at HI
    cases h1 : denomB d with
    | false =>
      have h1' : denomL d.data.toList = false := h1
      rw [h1'] at HD
      rw [hp]
      clear h1 h1' h hp h0 h0'
      show Calls Tryz.prog 12 _ _ fun e w' => e = .returned U4.zero.val ∧ _
      go_enter Tryz.func12, Tryz.ntmps12
      go_wp2_with fail
      refine (HI.out _).mono ?_
      rintro e w1 ⟨rfl, rfl⟩
      go_wp2_with fail
      refine (HD.out _).mono ?_
      rintro e w2 ⟨rfl, m, rfl⟩
      have hq := below_drewN' ha0 m
      have hk3 : LBlk ((w.alloc (.cells #[.int .u64 0, .int .u64 0, .int .u64 0, .int .u64 0] 25)).drewN m) w.heap.size U4.zero.cells := HK0.out
      obtain ⟨z0, z1, z2, z3⟩ := hk3.all
      have y0 := blk_free hk3 0
      have y1 := blk_free hk3 1
      have y2 := blk_free hk3 2
      have y3 := blk_free hk3 3
      have hk4 := LBlk.set4 (s := U4.zero) hk3 U4.zero
      obtain ⟨d0, d1, d2, d3⟩ := hk4.all
      have HD := Lib.hid (⟨d0, d1, d2, d3⟩ : _ ∧ _ ∧ _ ∧ _)
      clear hk3 hk4 d0 d1 d2 d3
      go_wp2_with fail
      obtain ⟨d0, d1, d2, d3⟩ := HD.out
      refine bodyPost_ret (v := .agg #[.int .u64 0, .int .u64 0, .int .u64 0, .int .u64 0]) ?_ rfl ⟨rfl, ?_⟩
      · simp [results, Tryz.results12, go_sem, d0, d1, d2, d3]
      · first | exact hq | exact (((hq.setCell (Nat.le_refl _) _).setCell (Nat.le_refl _) _).setCell (Nat.le_refl _) _).setCell (Nat.le_refl _) _
    | true =>
      have h1' : denomL d.data.toList = true := h1
      rw [h1'] at HD
      have HA : Hid (∀ W, Below w.heap.size w W → Calls Tryz.prog 45 #[topV l, .string (kBal a d)] W fun e w' => e = .returned (amtV l (kBal a d)).val ∧ Below W.heap.size W w') := Lib.hid fun W hb => amount_any (h.up hb) _ (keyB_size (kBal_fits h0 h1))
      show Calls Tryz.prog 12 _ _ fun e w' => e = .returned (amtV l (kBal a d)).val ∧ _
      rw [hp] at HA ⊢
      clear h1 h1' h hp h0 h0'
      generalize amtV l (kBal a d) = X at *
      unfold U4.val U4.cells at *
      go_enter Tryz.func12, Tryz.ntmps12
      go_wp2_with fail
      refine (HI.out _).mono ?_
      rintro e w1 ⟨rfl, rfl⟩
      go_wp2_with fail
      refine (HD.out _).mono ?_
      rintro e w2 ⟨rfl, m, rfl⟩
      have hq := below_drewN' ha0 m
      go_wp2_with fail
      refine (HK.out _).mono ?_
      rintro e w3 ⟨rfl, rfl⟩
      go_wp2_with fail
      refine (HA.out _ hq).mono ?_
      rintro e w4 ⟨rfl, hb4⟩
      have hq4 := below_chain hq hq.size hb4
      have hk3 : LBlk w4 w.heap.size U4.zero.cells := (hb4.block w.heap.size (Array.getElem?_eq_some_iff.1 HK0.out).1).trans HK0.out
      obtain ⟨z0, z1, z2, z3⟩ := hk3.all
      have y0 := blk_free hk3 0
      have y1 := blk_free hk3 1
      have y2 := blk_free hk3 2
      have y3 := blk_free hk3 3
      have hk4 := LBlk.set4 (s := U4.zero) hk3 X
      obtain ⟨d0, d1, d2, d3⟩ := hk4.all
      have HD := Lib.hid (⟨d0, d1, d2, d3⟩ : _ ∧ _ ∧ _ ∧ _)
      clear hk3 hk4 d0 d1 d2 d3
      go_wp2_with fail
      obtain ⟨d0, d1, d2, d3⟩ := HD.out
      refine bodyPost_ret (v := .agg #[.int .u64 X.a, .int .u64 X.b, .int .u64 X.c, .int .u64 X.d]) ?_ rfl ⟨rfl, ?_⟩
      · simp [results, Tryz.results12, go_sem, d0, d1, d2, d3]
      · exact (((hq4.setCell (Nat.le_refl _) _).setCell (Nat.le_refl _) _).setCell (Nat.le_refl _) _).setCell (Nat.le_refl _) _

/-- a store of one pile, of which R is seen, behind a call of the bank -/
def BankS (W : World) (y : Lyr) (l : List Lyr) (R : List Pr) (k : Nat) (W' : World) : Prop :=
  ∃ n f, PileS W' (⟨y.b, y.m, n, f⟩ :: l) ∧ SeenL ⟨#[]⟩ (⟨y.b, y.m, n, f⟩ :: l) R ∧ n ≤ y.n + k ∧ Chg W W' (fun k => k = y.m)
theorem BankS.refl {W : World} {y : Lyr} {l : List Lyr} {R : List Pr} (h : PileS W (y :: l)) (hs : SeenL ⟨#[]⟩ (y :: l) R) : BankS W y l R 0 W := ⟨y.n, y.f, h, hs, Nat.le_refl _, Chg.refl _ _⟩
theorem BankS.up {W W' W2 : World} {y : Lyr} {l : List Lyr} {R : List Pr} {k k' : Nat} (h : BankS W y l R k W') (hb : Below W'.heap.size W' W2) (hk : k ≤ k') : BankS W y l R k' W2 := by
  obtain ⟨n, f, h1, h2, h3, h4⟩ := h
  exact ⟨n, f, h1.up hb, h2, by omega, h4.trans' (.of_below hb _)⟩
/-- one amount kept -/
theorem BankS.keep_any {W W' : World} {y : Lyr} {l : List Lyr} {R : List Pr} {k : Nat} (h : BankS W y l R k W') (hn : y.n + k < maxLen) {key : ByteArray} (hk : keyB key = true) {x : U4} (hx : x.ok) :
    Calls Tryz.prog 90 #[.pointer (some ⟨y.b, 0, none⟩), .string key, x.val] W' fun e w' => e = .returned (.tuple #[]) ∧ BankS W y l (keepL key x R) (k + 1) w' ∧ Kept W' w' := by
  obtain ⟨n, f, h1, h2, h3, h4⟩ := h
  refine (Go.Proofs.YtniclaapiabmdaaGreatDoor.keep_any h1 (show n < maxLen by omega) key hk x hx).mono ?_
  rintro e w' ⟨he, hp, hc⟩
  refine ⟨he, ?_, ⟨_, hc, h1.1.maps⟩⟩
  have hs := h2.keep (keyB_size hk) x
  obtain ⟨n2, f2, e2, hn2⟩ := Lyr.keep_form ⟨y.b, y.m, n, f⟩ l.isEmpty key x
  rw [e2] at hp hs
  have hn3 : n2 ≤ n + 1 := hn2
  exact ⟨n2, f2, hp, hs, by omega, h4.trans' hc⟩
theorem Below.set4U {B : Nat} {w w' : World} {g : Nat} (h : Below B w w') (hg : B ≤ g) (x0 x1 x2 x3 : Value) : Below B w ((((w'.setCell ⟨g, 0, none⟩ x0).setCell ⟨g, 1, none⟩ x1).setCell ⟨g, 2, none⟩ x2).setCell ⟨g, 3, none⟩ x3) :=
  (((h.setCell hg _).setCell hg _).setCell hg _).setCell hg _

theorem BankS.from_ {W0 W W' : World} {y : Lyr} {l : List Lyr} {R : List Pr} {k : Nat} (h : BankS W y l R k W') (hb : Below W0.heap.size W0 W) : BankS W0 y l R k W' := by
  obtain ⟨n, f, h1, h2, h3, h4⟩ := h
  exact ⟨n, f, h1, h2, h3, (Chg.of_below hb _).trans' h4⟩
/-- a number handed in by value, in the block that the call makes for it -/
theorem boxU (w : World) (x : U4) : ∀ W, Below (w.alloc (.cells x.cells 25)).heap.size (w.alloc (.cells x.cells 25)) W → Below w.heap.size w W ∧ (W.cell? ⟨w.heap.size, 0, none⟩ = some (.int .u64 (x.a : Int)) ∧ W.cell? ⟨w.heap.size, 1, none⟩ = some (.int .u64 (x.b : Int)) ∧ W.cell? ⟨w.heap.size, 2, none⟩ = some (.int .u64 (x.c : Int)) ∧ W.cell? ⟨w.heap.size, 3, none⟩ = some (.int .u64 (x.d : Int))) := fun W hb => by
  have ha0 : Below w.heap.size w (w.alloc (.cells x.cells 25)) := (Below.refl _ _).alloc (Nat.le_refl _) _
  have hl : w.heap.size < (w.alloc (.cells x.cells 25)).heap.size := by simp
  exact ⟨below_chain ha0 ha0.size hb, ((LBlk.new w x.cells).below hb hl).all⟩
end Go.Proofs.YtniclaapiabmdaaGreatDoor
namespace Go.Proofs.YtniclaapiabmdaaGreatDoor
set_option maxRecDepth 100000
open Go Go.RowKit
set_option linter.unusedVariables false

theorem addU_ok' (x y : U4) : (addU x y).1.ok := by
  unfold addU
  split
  · exact ofN_ok _
  · exact zero_ok
end Go.Proofs.YtniclaapiabmdaaGreatDoor
namespace Go.Proofs.YtniclaapiabmdaaGreatDoor
set_option maxRecDepth 100000
open Go Go.RowKit
set_option linter.unusedVariables false

theorem subU_ok' (x y : U4) : (subU x y).1.ok := by
  unfold subU
  split
  · exact ofN_ok _
  · exact zero_ok
end Go.Proofs.YtniclaapiabmdaaGreatDoor
namespace Go.Proofs.YtniclaapiabmdaaGreatDoor
set_option maxRecDepth 100000
open Go Go.RowKit
set_option linter.unusedVariables false

theorem bytes_inj {l m : List UInt8} (h : (⟨l.toArray⟩ : ByteArray) = ⟨m.toArray⟩) : l = m := by
  injection h with h
  simpa using h
theorem beq_toList_ne {s t : ByteArray} (h : ¬ s = t) : (s.toList == t.toList) = false := by
  rw [Lib.toList_data, Lib.toList_data]
  refine beq_eq_false_iff_ne.2 fun e => h ?_
  cases s with | mk a => cases t with | mk b =>
  have : a = b := by simpa using e
  rw [this]
set_option maxHeartbeats 8000000 in
theorem samePs_any (w : World) (a b : Value) (L M : List Pr) (ha : RdP w w.heap.size a L) (hb : RdP w w.heap.size b M) :
    Calls Tryz.prog 13 #[a, b] w fun e w' => e = .returned (.bool (decide (L = M))) ∧ Below w.heap.size w w' := by
  obtain ⟨A, c, rfl, hc, hcm, hp⟩ := ha
  obtain ⟨A', c', rfl, hc', hcm', hp'⟩ := hb
  unfold maxLen at hcm hcm'
  obtain ⟨n, hn⟩ : ∃ n, n = L.length := ⟨_, rfl⟩
  obtain ⟨q, hq⟩ : ∃ q, q = M.length := ⟨_, rfl⟩
  rw [← hn] at hc ⊢
  rw [← hq] at hc' ⊢
  have HN := Lib.hid hn
  have HQ := Lib.hid hq
  have HP := Lib.hid hp
  have HP' := Lib.hid hp'
  clear hn hq hp hp'
  by_cases hl : n = q
  · subst hl
    have hne : ((n : Int) != (n : Int)) = false := by simp
    obtain ⟨R, hR⟩ : ∃ R : Bool, R = decide (L = M) := ⟨_, rfl⟩
    have HR := Lib.hid hR
    rw [← hR]
    clear hR
    go_enter Tryz.func13, Tryz.ntmps13
    go_wp2_with fail
    go_loopw [13] (fun i W => ∃ k : Nat, k ≤ n ∧ i = .int .i64 (k : Int) ∧ Below w.heap.size w W ∧ Hid (L.take k = M.take k))
      (fun i _ => n - (intOf i).toNat)
    case atStart => exact ⟨0, Nat.zero_le _, rfl, Below.refl _ _, Lib.hid (by simp)⟩
    case round =>
      rename World => W
      obtain ⟨k, hkn, rfl, hbW, HT⟩ := hrel
      by_cases hlt : k < n
      · have hkL : k < L.length := by have := HN.out; omega
        have hkM : k < M.length := by have := HQ.out; omega
        obtain ⟨b, o, rfl, hbl, hcell⟩ := HP.out (by omega)
        obtain ⟨b', o', rfl, hbl', hcell'⟩ := HP'.out (by omega)
        obtain ⟨q1, x, q2, q3⟩ := hcell k hkL
        obtain ⟨r1, y, r2, r3⟩ := hcell' k hkM
        have a1 := (hbW.cell (p := ⟨b, o + k * 2, none⟩) hbl).trans q1
        have a2 := (hbW.cell (p := ⟨b, o + k * 2 + 1, none⟩) hbl).trans q2
        have a3 := (hbW.cell (p := ⟨b', o' + k * 2, none⟩) hbl').trans r1
        have a4 := (hbW.cell (p := ⟨b', o' + k * 2 + 1, none⟩) hbl').trans r2
        have cx := fun nq => run_str (P := Tryz.prog) (w := W.drewN nq) (B := W.heap.size) (src := 27) (dst := 9) Tryz.underlying27 Tryz.underlying5 Tryz.isString ((q3.below hbW).more hbW.size)
        have cy := fun nq => run_str (P := Tryz.prog) (w := W.drewN nq) (B := W.heap.size) (src := 27) (dst := 9) Tryz.underlying27 Tryz.underlying5 Tryz.isString ((r3.below hbW).more hbW.size)
        obtain ⟨Ax, kx, rfl⟩ := q3.form
        obtain ⟨Ay, ky, rfl⟩ := r3.form
        have HLk : Hid (L[k] = (L[k].1, L[k].2)) := Lib.hid rfl
        have HMk : Hid (M[k] = (M[k].1, M[k].2)) := Lib.hid rfl
        have hstep : L[k] = M[k] → L.take (k + 1) = M.take (k + 1) := fun e => by
          rw [← List.take_append_getElem hkL, ← List.take_append_getElem hkM, HT.out, e]
        have HST := Lib.hid hstep
        have hno : ¬ L[k] = M[k] → R = false := fun e => by
          rw [HR.out]
          refine decide_eq_false fun h => e ?_
          subst h; rfl
        have HNO := Lib.hid hno
        have i1 : (0 : Int) ≤ (k : Int) := by omega
        have i2 : (k : Int) < (n : Int) := by omega
        clear hcell hcell' q1 q2 q3 r1 r2 r3 hstep hno
        generalize L[k] = u at *
        generalize M[k] = v at *
        obtain ⟨s, l⟩ := u
        obtain ⟨t, m⟩ := v
        dsimp only at a1 a2 a3 a4 cx cy
        obtain ⟨SX, hSX⟩ : ∃ SX : ByteArray, SX = ⟨l.toArray⟩ := ⟨_, rfl⟩
        obtain ⟨SY, hSY⟩ : ∃ SY : ByteArray, SY = ⟨m.toArray⟩ := ⟨_, rfl⟩
        simp only [← hSX] at cx
        simp only [← hSY] at cy
        generalize l.length = ll at *
        generalize m.length = ml at *
        have HSX := Lib.hid hSX
        have HSY := Lib.hid hSY
        clear hSX hSY
        by_cases hk : s = t
        · subst hk
          by_cases hv : SX = SY
          · subst hv
            have he : l = m := bytes_inj (HSX.out.symm.trans HSY.out)
            subst he
            have HT2 := Lib.hid (HST.out rfl)
            clear HST HNO HLk HMk
            go_wp2_with fail
            go_quiet (fail)
            go_wp2_with fail
            exact ⟨⟨k + 1, by omega, by go_num, below_drewN' hbW _, HT2⟩, by simp [intOf]; omega⟩
          · have HRf : Hid (R = false) := Lib.hid (HNO.out fun e => hv (by
              injection e with _ e
              rw [HSX.out, HSY.out, e]))
            have hv1 : (SX.toList == SY.toList) = false := beq_toList_ne hv
            have hv2 : (SX.toList != SY.toList) = true := by unfold bne; rw [hv1]; rfl
            clear HST HNO HLk HMk
            go_wp2_with fail
            go_quiet (fail)
            go_wp2_with fail
            go_ret
            exact ⟨by rw [HRf.out]; rfl, below_drewN' hbW _⟩
        · have HRf : Hid (R = false) := Lib.hid (HNO.out fun e => hk (by injection e))
          have hk1 : (s.toList == t.toList) = false := beq_toList_ne hk
          have hk2 : (s.toList != t.toList) = true := by unfold bne; rw [hk1]; rfl
          clear HST HNO HLk HMk
          go_wp2_with fail
          go_quiet (fail)
          go_wp2_with fail
          go_ret
          exact ⟨by rw [HRf.out]; rfl, below_drewN' hbW _⟩
      · have i2 : ¬ (k : Int) < (n : Int) := by omega
        obtain rfl : k = n := by omega
        have HRt : Hid (R = true) := Lib.hid (by
          have h1 := HT.out
          rw [List.take_of_length_le (by have := HN.out; omega), List.take_of_length_le (by have := HQ.out; omega)] at h1
          rw [HR.out, h1]; simp)
        go_wp2_with fail
        go_ret
        exact ⟨by rw [HRt.out]; rfl, hbW⟩
  · have hne : ((n : Int) != (q : Int)) = true := by simp; omega
    have HRf : Hid (decide (L = M) = false) := Lib.hid (decide_eq_false fun h => hl (by rw [HN.out, HQ.out, h]))
    rw [HRf.out]
    go_enter Tryz.func13, Tryz.ntmps13
    go_wp2_with fail
    go_ret
    exact ⟨rfl, Below.refl _ _⟩
end Go.Proofs.YtniclaapiabmdaaGreatDoor
namespace Go.Proofs.YtniclaapiabmdaaGreatDoor
set_option maxRecDepth 100000
open Go Go.RowKit
set_option linter.unusedVariables false

set_option maxHeartbeats 8000000 in
theorem send_any {w : World} {y : Lyr} {l : List Lyr} {R : List Pr} (h : PileS w (y :: l)) (hs : SeenL ⟨#[]⟩ (y :: l) R) (hn : y.n + 2 ≤ maxLen) (a b d : ByteArray) (x : U4) (hx : x.ok) (ha : a.size ≤ 100000000) (hb : b.size ≤ 100000000) (hd : d.size ≤ 100000000) :
    Calls Tryz.prog 36 #[.pointer (some ⟨y.b, 0, none⟩), .string a, .string b, .string d, x.val] w fun e w' => e = .returned (.int .i64 (sendM R a b d x).1) ∧ BankS w y l (sendM R a b d x).2 2 w' := by
  have HR := Lib.hid (fun W => right_any a d x W (by unfold maxLen; omega) (by unfold maxLen; omega))
  have HG : Hid (∀ W, Below w.heap.size w W → BankS w y l R 0 W) := Lib.hid fun W hb => (BankS.refl h hs).up hb (Nat.le_refl 0)
  have HW := Lib.hid (boxU w x)
  have HN := Lib.hid (show y.n + 0 < maxLen ∧ y.n + (0 + 1) < maxLen by omega)
  have HI : Hid (∀ W, Calls Tryz.prog 43 #[.string b] W fun e w' => e = .returned (.bool (identB b)) ∧ W = w') := Lib.hid (fun W => ident_any b W (by unfold maxLen; omega))
  by_cases e0 : rightM a d x = 0
  · obtain ⟨hia, hdd, -⟩ := rightM_zero e0
    have HQ : Hid ((identB b = false → sendM R a b d x = (40, R)) ∧ (identB b = true → (subU (balM R a d) x).2 = false → sendM R a b d x = (71, R)) ∧ (identB b = true → (subU (balM R a d) x).2 = true → a = b → sendM R a b d x = (0, R)) ∧
        (identB b = true → (subU (balM R a d) x).2 = true → a ≠ b → (addU (balM R b d) x).2 = false → sendM R a b d x = (10, R)) ∧
        (identB b = true → (subU (balM R a d) x).2 = true → a ≠ b → (addU (balM R b d) x).2 = true → sendM R a b d x = (0, keepL (kBal b d) (addU (balM R b d) x).1 (keepL (kBal a d) (subU (balM R a d) x).1 R)))) := Lib.hid (by
      unfold sendM
      rw [if_pos e0]
      refine ⟨fun h1 => by simp [h1], fun h1 h2 => by simp [h1, h2], fun h1 h2 h3 => by subst h3; simp [h1, h2], fun h1 h2 h3 h4 => by simp [h1, h2, h3, h4], fun h1 h2 h3 h4 => by simp [h1, h2, h3, h4]⟩)
    rw [e0] at HR
    have HLa : Hid (∀ W, Below w.heap.size w W → Calls Tryz.prog 12 #[.pointer (some ⟨y.b, 0, none⟩), .string a, .string d] W fun e w' => e = .returned (balM R a d).val ∧ Below W.heap.size W w') := Lib.hid fun W hb => by
      rw [← balV_seen hs a d]; exact bal_any (h.up hb) a d ha hd
    have HLb : Hid (∀ W, Below w.heap.size w W → Calls Tryz.prog 12 #[.pointer (some ⟨y.b, 0, none⟩), .string b, .string d] W fun e w' => e = .returned (balM R b d).val ∧ Below W.heap.size W w') := Lib.hid fun W hw => by
      rw [← balV_seen hs b d]; exact bal_any (h.up hw) b d hb hd
    have HK1 := Lib.hid (fun W => (balKey_any a d W ha hd).mono fun e w' ⟨h1, h2⟩ => (⟨h1, h2.symm⟩ : _ ∧ w' = W))
    have HK2 := Lib.hid (fun W => (balKey_any b d W hb hd).mono fun e w' ⟨h1, h2⟩ => (⟨h1, h2.symm⟩ : _ ∧ w' = W))
    have HA := Lib.hid (fun W => sub_any (balM R a d) x W (balM_ok R a d) hx)
    have HB := Lib.hid (fun W => add_any (balM R b d) x W (balM_ok R b d) hx)
    have HPo := Lib.hid (subU_ok' (balM R a d) x)
    have HQo := Lib.hid (addU_ok' (balM R b d) x)
    have HF1 := Lib.hid (kBal_fits hia hdd)
    have HF2 : Hid (identB b = true → keyB (kBal b d) = true) := Lib.hid fun hib => kBal_fits hib hdd
    clear h hs hn hx e0 hia hdd ha hb hd
    generalize balM R a d = S at *
    generalize balM R b d = B at *
    generalize subU S x = P at *
    generalize addU B x = Q at *
    obtain ⟨P, p2⟩ := P
    obtain ⟨Q, q2⟩ := Q
    generalize sendM R a b d x = q at *
    generalize identB b = ib at *
    dsimp only at HA HB HPo HQo HQ
    unfold U4.val U4.cells at *
    go_enter Tryz.func36, Tryz.ntmps36
    go_wp2_with fail
    generalize w.alloc (.cells #[.int .u64 (x.a : Int), .int .u64 (x.b : Int), .int .u64 (x.c : Int), .int .u64 (x.d : Int)] 25) = W0 at *
    generalize w.heap.size = g0 at *
    refine (HR.out _).mono ?_
    rintro e w1 ⟨rfl, hq1⟩
    go_wp2_with fail
    refine (HI.out _).mono ?_
    rintro e w2 ⟨rfl, rfl⟩
    cases ib
    · have gg := HG.out _ (HW.out _ hq1).1
      go_wp2_with fail
      go_ret
      rw [HQ.out.1 (by trivial)]
      exact ⟨rfl, gg.up (Below.refl _ _) (by omega)⟩
    · have HF3 := Lib.hid (HF2.out rfl)
      clear HF2
      go_wp2_with fail
      have hd1 := hq1.drew
      have he1 := (hq1.alloc hq1.size (.cells #[.int .u64 0, .int .u64 0, .int .u64 0, .int .u64 0] 25)).drew
      have HZ1 : Hid (LBlk (w1.alloc (.cells #[.int .u64 0, .int .u64 0, .int .u64 0, .int .u64 0] 25)).drew w1.heap.size U4.zero.cells) := Lib.hid (LBlk.new w1 U4.zero.cells).drew
      go_region_held_law (fun W => W.cell? ⟨g0, 0, none⟩ = some (.int .u64 (x.a : Int)) ∧ W.cell? ⟨g0, 1, none⟩ = some (.int .u64 (x.b : Int)) ∧ W.cell? ⟨g0, 2, none⟩ = some (.int .u64 (x.c : Int)) ∧ W.cell? ⟨g0, 3, none⟩ = some (.int .u64 (x.d : Int)))
        (with_reducible first | exact (HW.out _ (Below.set4U (hb1.alloc hb1.size _) hb1.size _ _ _ _)).2 | exact (HW.out _ (Below.set4U hb1 (by first | exact ha1.size | exact hq1.size) _ _ _ _)).2 | exact (HW.out _ (hb1.alloc hb1.size _)).2 | exact (HW.out _ hb1).2 | exact (HW.out _ (ha1.alloc ha1.size _)).2 | exact (HW.out _ ha1).2 | exact (HW.out _ he1).2 | exact (HW.out _ hd1).2)
        (first
          | (go_at_call 12; first
              | (refine (HLa.out _ (HW.out _ hd1).1).mono ?_; rintro e wa1 ⟨rfl, hba1⟩
                 have ha1 := below_chain hd1 hd1.size hba1)
              | (refine (HLa.out _ (HW.out _ he1).1).mono ?_; rintro e wa1 ⟨rfl, hba1⟩
                 have ha1 := below_chain he1 he1.size hba1
                 have hfr1 := LBlk.below (cs := U4.zero.cells) HZ1.out hba1 (blk_lt HZ1.out)
                 obtain ⟨z0, z1, z2, z3⟩ := LBlk.all (s := U4.zero) hfr1
                 have f0 := hfr1.free 0
                 have f1 := hfr1.free 1
                 have f2 := hfr1.free 2
                 have f3 := hfr1.free 3))
          | (go_at_call 88; have hq' := ha1; refine (HA.out _).mono ?_; rintro e wb1 ⟨rfl, hbb1⟩; first
              | (have hx := hfr1; have hb1 := below_chain ha1 ha1.size hbb1
                 have hfs1 := LBlk.below (cs := U4.zero.cells) hx hbb1 (blk_lt hx)
                 obtain ⟨z0, z1, z2, z3⟩ := LBlk.all (s := U4.zero) hfs1
                 have f0 := hfs1.free 0
                 have f1 := hfs1.free 1
                 have f2 := hfs1.free 2
                 have f3 := hfs1.free 3)
              | (have hb1 := below_chain ha1 ha1.size hbb1)
              | (have hya := ha1.alloc ha1.size (.cells #[.int .u64 0, .int .u64 0, .int .u64 0, .int .u64 0] 25)
                 have hb1 := below_chain hya hya.size hbb1
                 have hfs1 := LBlk.below (cs := U4.zero.cells) (LBlk.new _ _) hbb1 (by simp)
                 obtain ⟨z0, z1, z2, z3⟩ := LBlk.all (s := U4.zero) hfs1
                 have f0 := hfs1.free 0
                 have f1 := hfs1.free 1
                 have f2 := hfs1.free 2
                 have f3 := hfs1.free 3)))
      all_goals
        first
          | (have hx := hfr1
             have hW1 := Below.set4U (g := w1.heap.size) hb1 (Nat.le_trans (Nat.le_refl _) hq1.size) (.int .u64 (P.a : Int)) (.int .u64 (P.b : Int)) (.int .u64 (P.c : Int)) (.int .u64 (P.d : Int))
             have hU1 := LBlk.set4 (s := U4.zero) hfs1 P
             generalize ((((wb1.setCell ⟨w1.heap.size, 0, none⟩ (.int .u64 (P.a : Int))).setCell ⟨w1.heap.size, 1, none⟩ (.int .u64 (P.b : Int))).setCell ⟨w1.heap.size, 2, none⟩ (.int .u64 (P.c : Int))).setCell ⟨w1.heap.size, 3, none⟩ (.int .u64 (P.d : Int))) = W1 at *
             generalize w1.heap.size = g1 at *)
          | (have hx := hfs1
             have hW1 := Below.set4U (g := wa1.heap.size) hb1 ha1.size (.int .u64 (P.a : Int)) (.int .u64 (P.b : Int)) (.int .u64 (P.c : Int)) (.int .u64 (P.d : Int))
             have hU1 := LBlk.set4 (s := U4.zero) hfs1 P
             generalize ((((wb1.setCell ⟨wa1.heap.size, 0, none⟩ (.int .u64 (P.a : Int))).setCell ⟨wa1.heap.size, 1, none⟩ (.int .u64 (P.b : Int))).setCell ⟨wa1.heap.size, 2, none⟩ (.int .u64 (P.c : Int))).setCell ⟨wa1.heap.size, 3, none⟩ (.int .u64 (P.d : Int))) = W1 at *
             generalize wa1.heap.size = g1 at *)
          | (have hW1 := hb1.alloc hb1.size (.cells #[.int .u64 (P.a : Int), .int .u64 (P.b : Int), .int .u64 (P.c : Int), .int .u64 (P.d : Int)] 25)
             have hU1 : LBlk (wb1.alloc (.cells #[.int .u64 (P.a : Int), .int .u64 (P.b : Int), .int .u64 (P.c : Int), .int .u64 (P.d : Int)] 25)) wb1.heap.size P.cells := LBlk.new wb1 P.cells
             generalize wb1.alloc (.cells #[.int .u64 (P.a : Int), .int .u64 (P.b : Int), .int .u64 (P.c : Int), .int .u64 (P.d : Int)] 25) = W1 at *
             generalize wb1.heap.size = g1 at *)
        have HX1 : Hid (∀ W, Below W1.heap.size W1 W → Below g0 w W ∧ W.cell? ⟨g0, 0, none⟩ = some (.int .u64 (x.a : Int)) ∧ W.cell? ⟨g0, 1, none⟩ = some (.int .u64 (x.b : Int)) ∧ W.cell? ⟨g0, 2, none⟩ = some (.int .u64 (x.c : Int)) ∧ W.cell? ⟨g0, 3, none⟩ = some (.int .u64 (x.d : Int)) ∧ W.cell? ⟨g1, 0, none⟩ = some (.int .u64 (P.a : Int)) ∧ W.cell? ⟨g1, 1, none⟩ = some (.int .u64 (P.b : Int)) ∧ W.cell? ⟨g1, 2, none⟩ = some (.int .u64 (P.c : Int)) ∧ W.cell? ⟨g1, 3, none⟩ = some (.int .u64 (P.d : Int))) := Lib.hid fun W hb => by
          obtain ⟨q1, q2, q3, q4, q5⟩ := HW.out _ (below_chain hW1 hW1.size hb)
          obtain ⟨r1, r2, r3, r4⟩ := LBlk.all (s := P) (LBlk.below hU1 hb (blk_lt hU1))
          exact ⟨q1, q2, q3, q4, q5, r1, r2, r3, r4⟩
        have hq2 := Below.refl W1.heap.size W1
        clear hU1 hW1
        cases p2
        · have gg := HG.out _ (HX1.out _ hq2).1
          go_wp2_with fail
          go_ret
          rw [HQ.out.2.1 (by trivial) (by trivial)]
          exact ⟨rfl, gg.up (Below.refl _ _) (by omega)⟩
        · by_cases eab : a = b
          · have HE := Lib.hid eab
            have gg := HG.out _ (HX1.out _ hq2).1
            subst eab
            go_wp2_with fail
            go_ret
            rw [HQ.out.2.2.1 (by trivial) (by trivial) HE.out]
            exact ⟨rfl, gg.up (Below.refl _ _) (by omega)⟩
          · have HE := Lib.hid eab
            have hbe : (a.toList == b.toList) = false := beq_toList_ne eab
            go_wp2_with fail
            have hd2 := hq2.drew
            have he2 := (hq2.alloc hq2.size (.cells #[.int .u64 0, .int .u64 0, .int .u64 0, .int .u64 0] 25)).drew
            have HZ2 : Hid (LBlk (W1.alloc (.cells #[.int .u64 0, .int .u64 0, .int .u64 0, .int .u64 0] 25)).drew W1.heap.size U4.zero.cells) := Lib.hid (LBlk.new W1 U4.zero.cells).drew
            go_region_held_law (fun W => W.cell? ⟨g0, 0, none⟩ = some (.int .u64 (x.a : Int)) ∧ W.cell? ⟨g0, 1, none⟩ = some (.int .u64 (x.b : Int)) ∧ W.cell? ⟨g0, 2, none⟩ = some (.int .u64 (x.c : Int)) ∧ W.cell? ⟨g0, 3, none⟩ = some (.int .u64 (x.d : Int)) ∧ W.cell? ⟨g1, 0, none⟩ = some (.int .u64 (P.a : Int)) ∧ W.cell? ⟨g1, 1, none⟩ = some (.int .u64 (P.b : Int)) ∧ W.cell? ⟨g1, 2, none⟩ = some (.int .u64 (P.c : Int)) ∧ W.cell? ⟨g1, 3, none⟩ = some (.int .u64 (P.d : Int)))
              (with_reducible first | exact (HX1.out _ (Below.set4U (hb2.alloc hb2.size _) hb2.size _ _ _ _)).2 | exact (HX1.out _ (Below.set4U hb2 (by first | exact ha2.size | exact hq2.size) _ _ _ _)).2 | exact (HX1.out _ (hb2.alloc hb2.size _)).2 | exact (HX1.out _ hb2).2 | exact (HX1.out _ (ha2.alloc ha2.size _)).2 | exact (HX1.out _ ha2).2 | exact (HX1.out _ he2).2 | exact (HX1.out _ hd2).2)
              (first
                | (go_at_call 12; first
                    | (refine (HLb.out _ (HX1.out _ hd2).1).mono ?_; rintro e wa2 ⟨rfl, hba2⟩
                       have ha2 := below_chain hd2 hd2.size hba2)
                    | (refine (HLb.out _ (HX1.out _ he2).1).mono ?_; rintro e wa2 ⟨rfl, hba2⟩
                       have ha2 := below_chain he2 he2.size hba2
                       have hfr2 := LBlk.below (cs := U4.zero.cells) HZ2.out hba2 (blk_lt HZ2.out)
                       obtain ⟨z0, z1, z2, z3⟩ := LBlk.all (s := U4.zero) hfr2
                       have f0 := hfr2.free 0
                       have f1 := hfr2.free 1
                       have f2 := hfr2.free 2
                       have f3 := hfr2.free 3))
                | (go_at_call 89; have hq' := ha2; refine (HB.out _).mono ?_; rintro e wb2 ⟨rfl, hbb2⟩; first
                    | (have hx := hfr2; have hb2 := below_chain ha2 ha2.size hbb2
                       have hfs2 := LBlk.below (cs := U4.zero.cells) hx hbb2 (blk_lt hx)
                       obtain ⟨z0, z1, z2, z3⟩ := LBlk.all (s := U4.zero) hfs2
                       have f0 := hfs2.free 0
                       have f1 := hfs2.free 1
                       have f2 := hfs2.free 2
                       have f3 := hfs2.free 3)
                    | (have hb2 := below_chain ha2 ha2.size hbb2)
                    | (have hya := ha2.alloc ha2.size (.cells #[.int .u64 0, .int .u64 0, .int .u64 0, .int .u64 0] 25)
                       have hb2 := below_chain hya hya.size hbb2
                       have hfs2 := LBlk.below (cs := U4.zero.cells) (LBlk.new _ _) hbb2 (by simp)
                       obtain ⟨z0, z1, z2, z3⟩ := LBlk.all (s := U4.zero) hfs2
                       have f0 := hfs2.free 0
                       have f1 := hfs2.free 1
                       have f2 := hfs2.free 2
                       have f3 := hfs2.free 3)))
            all_goals
              first
                | (have hx := hfr2
                   have hW2 := Below.set4U (g := W1.heap.size) hb2 (Nat.le_trans (Nat.le_refl _) hq2.size) (.int .u64 (Q.a : Int)) (.int .u64 (Q.b : Int)) (.int .u64 (Q.c : Int)) (.int .u64 (Q.d : Int))
                   have hU2 := LBlk.set4 (s := U4.zero) hfs2 Q
                   generalize ((((wb2.setCell ⟨W1.heap.size, 0, none⟩ (.int .u64 (Q.a : Int))).setCell ⟨W1.heap.size, 1, none⟩ (.int .u64 (Q.b : Int))).setCell ⟨W1.heap.size, 2, none⟩ (.int .u64 (Q.c : Int))).setCell ⟨W1.heap.size, 3, none⟩ (.int .u64 (Q.d : Int))) = W2 at *
                   generalize W1.heap.size = g2 at *)
                | (have hx := hfs2
                   have hW2 := Below.set4U (g := wa2.heap.size) hb2 ha2.size (.int .u64 (Q.a : Int)) (.int .u64 (Q.b : Int)) (.int .u64 (Q.c : Int)) (.int .u64 (Q.d : Int))
                   have hU2 := LBlk.set4 (s := U4.zero) hfs2 Q
                   generalize ((((wb2.setCell ⟨wa2.heap.size, 0, none⟩ (.int .u64 (Q.a : Int))).setCell ⟨wa2.heap.size, 1, none⟩ (.int .u64 (Q.b : Int))).setCell ⟨wa2.heap.size, 2, none⟩ (.int .u64 (Q.c : Int))).setCell ⟨wa2.heap.size, 3, none⟩ (.int .u64 (Q.d : Int))) = W2 at *
                   generalize wa2.heap.size = g2 at *)
                | (have hW2 := hb2.alloc hb2.size (.cells #[.int .u64 (Q.a : Int), .int .u64 (Q.b : Int), .int .u64 (Q.c : Int), .int .u64 (Q.d : Int)] 25)
                   have hU2 : LBlk (wb2.alloc (.cells #[.int .u64 (Q.a : Int), .int .u64 (Q.b : Int), .int .u64 (Q.c : Int), .int .u64 (Q.d : Int)] 25)) wb2.heap.size Q.cells := LBlk.new wb2 Q.cells
                   generalize wb2.alloc (.cells #[.int .u64 (Q.a : Int), .int .u64 (Q.b : Int), .int .u64 (Q.c : Int), .int .u64 (Q.d : Int)] 25) = W2 at *
                   generalize wb2.heap.size = g2 at *)
              obtain ⟨q1, -, -, -, -, r0, r1, r2, r3⟩ := HX1.out _ hW2
              obtain ⟨s0, s1, s2, s3⟩ := LBlk.all (s := Q) hU2
              have gg := HG.out _ q1
              clear q1 hW2 hU2 HX1
              cases q2
              · go_wp2_with fail
                go_ret
                rw [HQ.out.2.2.2.1 (by trivial) (by trivial) HE.out (by trivial)]
                exact ⟨rfl, gg.up (Below.refl _ _) (by omega)⟩
              · go_wp2_with fail
                refine wp_region_still_tail 5 (by kernel_rfl) (by kernel_rfl) ?_
                simp only [List.take_succ_cons, List.take_zero, List.drop_succ_cons, List.drop_zero]
                still_step
                still_step
                still_step
                still_call (HK1.out _)
                still_step
                refine wpStill_nil ?_
                change wpList _ _ _ _ _ W2.drew
                go_wp2_with fail
                have ggd := gg.up (Below.drew (Below.refl _ _)) (Nat.le_refl 0)
                refine (ggd.keep_any HN.out.1 HF1.out HPo.out).mono ?_
                rintro e w7 ⟨rfl, g1, hkp⟩
                replace s0 := hkp.cell s0
                replace s1 := hkp.cell s1
                replace s2 := hkp.cell s2
                replace s3 := hkp.cell s3
                clear r0 r1 r2 r3 hkp
                go_wp2_with fail
                refine wp_region_still_tail 5 (by kernel_rfl) (by kernel_rfl) ?_
                simp only [List.take_succ_cons, List.take_zero, List.drop_succ_cons, List.drop_zero]
                still_step
                still_step
                still_step
                still_call (HK2.out _)
                still_step
                refine wpStill_nil ?_
                change wpList _ _ _ _ _ w7.drew
                go_wp2_with fail
                have g1d := g1.up (Below.drew (Below.refl _ _)) (Nat.le_refl _)
                refine (g1d.keep_any HN.out.2 HF3.out HQo.out).mono ?_
                rintro e w9 ⟨rfl, g2, -⟩
                go_wp2_with fail
                go_ret
                rw [HQ.out.2.2.2.2 (by trivial) (by trivial) HE.out (by trivial)]
                exact ⟨rfl, g2⟩
  · have HQ : Hid (sendM R a b d x = (rightM a d x, R)) := Lib.hid (by unfold sendM; rw [if_neg e0])
    have HE := Lib.hid e0
    clear h hs hn hx e0
    generalize sendM R a b d x = q at *
    generalize rightM a d x = r at *
    unfold U4.val U4.cells at *
    go_enter Tryz.func36, Tryz.ntmps36
    go_wp2_with fail
    refine (HR.out _).mono ?_
    rintro e w1 ⟨rfl, hq1⟩
    have g0 := HG.out _ (HW.out _ hq1).1
    have hne2 := HE.out
    go_wp2_with fail
    go_ret
    rw [HQ.out]
    exact ⟨rfl, g0.up (Below.refl _ _) (by omega)⟩
end Go.Proofs.YtniclaapiabmdaaGreatDoor
