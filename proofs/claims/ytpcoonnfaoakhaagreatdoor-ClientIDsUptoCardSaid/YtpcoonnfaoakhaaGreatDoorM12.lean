/- Texts joined: BankA0, ShaH0. -/
import Derived.Test.YtpcoonnfaoakhaaGreatDoorM10
import Derived.Test.YtpcoonnfaoakhaaGreatDoorM11
import Derived.Test.YtpcoonnfaoakhaaGreatDoorM02
import Derived.Test.YtpcoonnfaoakhaaGreatDoorM09
import Derived.Test.YtpcoonnfaoakhaaGreatDoorM04
import Derived.Test.YtpcoonnfaoakhaaGreatDoorM01
import Derived.StillTailTactics
import Derived.Deep.RegionHeldLaw
import Derived.Laws.Concat
namespace Go.Proofs.YtpcoonnfaoakhaaGreatDoor
set_option maxRecDepth 100000
open Go Go.RowKit
set_option linter.unusedVariables false

theorem txt_add (a b : ByteArray) (h : a.size + b.size ≤ 9223372036854775807) (w : World) : (Op.stringOp .add a b).run Tryz.prog w = .ok (.string (a ++ b)) w := run_string_add_sum (P := Tryz.prog) (w := w) a b h
set_option maxHeartbeats 1000000 in
theorem balKey_any (a d : ByteArray) (w : World) (ha : a.size ≤ 100000000) (hd : d.size ≤ 100000000) : Calls Tryz.prog 62 #[.string a, .string d] w fun e w' => e = .returned (.string (kBal a d)) ∧ w = w' := by
  have s1 : balP.size = 4 := rfl
  have s2 : slB.size = 1 := rfl
  have h1 := fun W => txt_add balP a (by rw [s1]; omega) W
  have h2 := fun W => txt_add (balP ++ a) slB (by rw [ByteArray.size_append, s1, s2]; omega) W
  have h3 := fun W => txt_add ((balP ++ a) ++ slB) d (by rw [ByteArray.size_append, ByteArray.size_append, s1, s2]; omega) W
  unfold kBal
  unfold balP slB at *
  go_enter Tryz.func62, Tryz.ntmps62
  go_wp2
  go_ret
  exact ⟨rfl, rfl⟩
/-- the amount under a key, as it is seen -/
def amtV (l : List Lyr) (key : ByteArray) : U4 := (fromU ((visV l key).getD [])).1
theorem amtV_seen {l : List Lyr} {R : List Pr} (h : SeenL ⟨#[]⟩ l R) {key : ByteArray} (hk : key.size ≤ maxLen) : amtV l key = amtU R key := by
  unfold amtV amtU
  rw [h.get key hk, begB_empty, if_pos rfl]
set_option maxHeartbeats 2000000 in
theorem amount_any {w : World} {l : List Lyr} (h : PileS w l) (key : ByteArray) (hk : key.size ≤ maxLen) :
    Calls Tryz.prog 61 #[topV l, .string key] w fun e w' => e = .returned (amtV l key).val ∧ Below w.heap.size w w' := by
  have hG := fun (W : World) (hb : Below w.heap.size w W) => get_any (h.up hb) key hk
  have hF := fun (v : Value) (W : World) (hr : Rd W W.heap.size v ((visV l key).getD [])) => from_any v _ W hr
  unfold amtV
  obtain ⟨p, hp⟩ : ∃ p, topV l = .pointer p := by cases l <;> exact ⟨_, rfl⟩
  rw [hp] at hG ⊢
  have HG := Lib.hid hG
  have HF := Lib.hid hF
  clear hG hF h hp
  generalize (visV l key).getD [] = b at *
  generalize (visV l key).isSome = t at *
  obtain ⟨X, hX⟩ : ∃ X : U4, X = (fromU b).1 := ⟨_, rfl⟩
  obtain ⟨E, hE⟩ : ∃ E : Int, E = (fromU b).2 := ⟨_, rfl⟩
  rw [← hX, ← hE] at HF
  rw [← hX]
  clear hX hE
  unfold U4.val U4.cells at *
  go_enter Tryz.func61, Tryz.ntmps61
  go_wp2_with fail
  have ha0 : Below w.heap.size w (w.alloc (.cells #[.int .u64 0, .int .u64 0, .int .u64 0, .int .u64 0] 25)) := (Below.refl _ _).alloc (Nat.le_refl _) _
  refine (HG.out _ ha0).mono ?_
  rintro e w1 ⟨v1, rfl, ho1, hb1⟩
  have hk0 := heap_alloc_new w (.cells #[.int .u64 0, .int .u64 0, .int .u64 0, .int .u64 0] 25)
  have hk1 := (hb1.block w.heap.size (Array.getElem?_eq_some_iff.1 hk0).1).trans hk0
  replace hb1 := below_chain ha0 ha0.size hb1
  have HC := Lib.hid (HF.out v1 w1 ho1.rd)
  obtain ⟨A1, c1, rfl⟩ := ho1.form
  clear ho1
  go_wp2_with fail
  refine HC.out.mono ?_
  rintro e w2 ⟨rfl, hb2⟩
  have hk2 := (hb2.block w.heap.size (Array.getElem?_eq_some_iff.1 hk1).1).trans hk1
  have hq := below_chain hb1 hb1.size hb2
  clear hk0 hk1
  have hk3 : LBlk (w2.alloc (.cells #[.int .u64 X.a, .int .u64 X.b, .int .u64 X.c, .int .u64 X.d] 25)) w.heap.size U4.zero.cells := LBlk.alloc hk2 _
  have hq3 : Below w.heap.size w (w2.alloc (.cells #[.int .u64 X.a, .int .u64 X.b, .int .u64 X.c, .int .u64 X.d] 25)) := hq.alloc hq.size _
  obtain ⟨z0, z1, z2, z3⟩ := hk3.all
  have y0 := blk_free hk3 0
  have y1 := blk_free hk3 1
  have y2 := blk_free hk3 2
  have y3 := blk_free hk3 3
  have hk4 := LBlk.set4 (s := U4.zero) hk3 X
  obtain ⟨d0, d1, d2, d3⟩ := hk4.all
  have HD := Lib.hid (⟨d0, d1, d2, d3⟩ : _ ∧ _ ∧ _ ∧ _)
  clear hk2 hk3 hk4 d0 d1 d2 d3
  go_wp2_with fail
  obtain ⟨d0, d1, d2, d3⟩ := HD.out
  refine bodyPost_ret (v := .agg #[.int .u64 X.a, .int .u64 X.b, .int .u64 X.c, .int .u64 X.d]) ?_ rfl ⟨rfl, ?_⟩
  · simp [results, Tryz.results61, go_sem, d0, d1, d2, d3]
  · exact (((hq3.setCell (Nat.le_refl _) _).setCell (Nat.le_refl _) _).setCell (Nat.le_refl _) _).setCell (Nat.le_refl _) _

/-- an amount kept in a layer -/
def Lyr.keep (y : Lyr) (bot : Bool) (key : ByteArray) (x : U4) : Lyr := if eqB x U4.zero = true then y.del bot key else y.put key (some (be x.nat 32))
set_option maxHeartbeats 2000000 in
theorem keep_any {w : World} {y : Lyr} {l : List Lyr} (h : PileS w (y :: l)) (hn : y.n < maxLen) (key : ByteArray) (hk : keyB key = true) (x : U4) (hx : x.ok) :
    Calls Tryz.prog 122 #[.pointer (some ⟨y.b, 0, none⟩), .string key, x.val] w fun e w' => e = .returned (.tuple #[]) ∧ PileS w' (y.keep l.isEmpty key x :: l) ∧ Chg w w' (fun k => k = y.m) := by
  have hks : key.size ≤ maxLen := by
    simp only [keyB, Bool.and_eq_true, decide_eq_true_eq] at hk
    unfold maxLen; omega
  have hZ := fun W => zero_any x W
  have hpb : pairB (key, be x.nat 32) = true := by simp [pairB, hk, be_length]
  have HP := Lib.hid h
  have HX := Lib.hid hx
  unfold Lyr.keep
  cases h0 : eqB x U4.zero with
  | true =>
    rw [h0] at hZ
    have HZ := Lib.hid hZ
    clear hZ h0 h
    unfold U4.val U4.cells at *
    go_enter Tryz.func122, Tryz.ntmps122
    go_wp2_with fail
    have ha0 : Below w.heap.size w (w.alloc (.cells x.cells 25)) := (Below.refl _ _).alloc (Nat.le_refl _) _
    unfold U4.cells at ha0
    refine (HZ.out _).mono ?_
    rintro e w1 ⟨rfl, hb1⟩
    replace hb1 := below_chain ha0 ha0.size hb1
    have HD := Lib.hid (del_any (HP.out.up hb1) hn key hks)
    go_wp2_with fail
    refine HD.out.mono ?_
    rintro e w2 ⟨rfl, hp2, hc2⟩
    go_wp2_with fail
    refine bodyPost_ret (results_none rfl _ _ _) rfl ?_
    exact ⟨rfl, by simpa using hp2, (Chg.of_below hb1 _).trans' hc2⟩
  | false =>
    rw [h0] at hZ
    have HZ := Lib.hid hZ
    have HB := Lib.hid (fun W => bytes_any x W hx)
    clear hZ h0 h
    unfold U4.val U4.cells at *
    go_enter Tryz.func122, Tryz.ntmps122
    go_wp2_with fail
    have ha0 : Below w.heap.size w (w.alloc (.cells x.cells 25)) := (Below.refl _ _).alloc (Nat.le_refl _) _
    unfold U4.cells at ha0
    refine (HZ.out _).mono ?_
    rintro e w1 ⟨rfl, hb1⟩
    have hk0 := heap_alloc_new w (.cells x.cells 25)
    unfold U4.cells at hk0
    have hk1 := (hb1.block w.heap.size (Array.getElem?_eq_some_iff.1 hk0).1).trans hk0
    clear hk0
    obtain ⟨z0, z1, z2, z3⟩ := LBlk.all (s := x) hk1
    replace hb1 := below_chain ha0 ha0.size hb1
    go_wp2_with fail
    refine (HB.out _).mono ?_
    rintro e w2 ⟨v2, rfl, ho2, hb2⟩
    have hq2 := below_chain hb1 hb1.size hb2
    have HS := Lib.hid (set_yes (HP.out.up hq2) hn key hks v2 (be x.nat 32) ho2.rd hpb)
    obtain ⟨A2, c2, rfl⟩ := ho2.form' (be_length x.nat 32)
    clear ho2
    go_wp2_with fail
    refine HS.out.mono ?_
    rintro e w3 ⟨rfl, hp3, hc3⟩
    go_wp2_with fail
    go_end0
    exact ⟨rfl, by simpa using hp3, (Chg.of_below hq2 _).trans' hc3⟩
end Go.Proofs.YtpcoonnfaoakhaaGreatDoor
namespace Go.Proofs.YtpcoonnfaoakhaaGreatDoor
set_option maxRecDepth 100000
open Go Go.RowKit
set_option linter.unusedVariables false

theorem SeenL.keep {y : Lyr} {l : List Lyr} {R : List Pr} (h : SeenL ⟨#[]⟩ (y :: l) R) {key : ByteArray} (hk : key.size ≤ maxLen) (x : U4) : SeenL ⟨#[]⟩ (y.keep l.isEmpty key x :: l) (keepL key x R) where
  rise := h.rise.keep
  small := fun p hp => by
    unfold keepL at hp
    rcases List.mem_append.1 ((putL_perm key _ R).mem_iff.1 hp) with hp | hp
    · split at hp
      · cases hp
      · rw [List.mem_singleton.1 hp]; exact hk
    · exact h.small p (List.mem_filter.1 hp).1
  get := fun s hs => by
    have h0 := h.get s hs
    rw [begB_empty, if_pos rfl] at h0 ⊢
    rw [getL_keep]
    unfold visV at h0 ⊢
    rw [visD_cons] at h0 ⊢
    have hv : (y.keep l.isEmpty key x).f s = if s = key then (if eqB x U4.zero = true then (if l.isEmpty = true then none else some none) else some (some (be x.nat 32))) else y.f s := by
      unfold Lyr.keep Lyr.del
      by_cases hx : eqB x U4.zero = true
      · rw [if_pos hx, if_pos hx]
        by_cases hl : l.isEmpty = true
        · rw [if_pos hl, if_pos hl]; rfl
        · rw [if_neg hl, if_neg hl]; rfl
      · rw [if_neg hx, if_neg hx]; rfl
    rw [hv]
    by_cases e : s = key
    · rw [if_pos e, if_pos e]
      by_cases hx : eqB x U4.zero = true
      · rw [if_pos hx, if_pos hx]
        cases l with
        | nil => rfl
        | cons a l => rfl
      · rw [if_neg hx, if_neg hx]; rfl
    · rw [if_neg e, if_neg e]; exact h0
theorem Lyr.keep_form (y : Lyr) (bot : Bool) (key : ByteArray) (x : U4) : ∃ n f, y.keep bot key x = ⟨y.b, y.m, n, f⟩ ∧ n ≤ y.n + 1 := by
  unfold Lyr.keep Lyr.del
  split
  · split
    · exact ⟨_, _, rfl, Nat.le_succ _⟩
    · exact ⟨_, _, rfl, Nat.le_refl _⟩
  · exact ⟨_, _, rfl, Nat.le_refl _⟩

set_option maxHeartbeats 2000000 in
theorem right_any (a d : ByteArray) (x : U4) (w : World) (ha : a.size ≤ maxLen) (hd : d.size ≤ maxLen) :
    Calls Tryz.prog 119 #[.string a, .string d, x.val] w fun e w' => e = .returned (.int .i64 (rightM a d x)) ∧ Below w.heap.size w w' := by
  have HI := Lib.hid (fun W => ident_any a W ha)
  have HD := Lib.hid (fun W => denom_any d W hd)
  have HZ := Lib.hid (fun W => zero_any x W)
  unfold rightM
  show Calls Tryz.prog 119 _ _ fun e w' => e = .returned (.int .i64 (if identL a.data.toList = true then (if denomL d.data.toList = true then (if eqB x U4.zero = true then 70 else 0) else 41) else 40)) ∧ _
  have ha0 : Below w.heap.size w (w.alloc (.cells x.cells 25)) := (Below.refl _ _).alloc (Nat.le_refl _) _
  have hk0 := heap_alloc_new w (.cells x.cells 25)
  obtain ⟨z0, z1, z2, z3⟩ := LBlk.all (s := x) hk0
  clear hk0
  unfold U4.val U4.cells at *
  cases h1 : identL a.data.toList with
  | false =>
    rw [h1] at HI
    clear h1
    go_enter Tryz.func119, Tryz.ntmps119
    go_wp2_with fail
    refine (HI.out _).mono ?_
    rintro e w1 ⟨rfl, rfl⟩
    go_wp2_with fail
    go_ret
    exact ⟨rfl, ha0⟩
  | true =>
    rw [h1] at HI
    clear h1
    cases h2 : denomL d.data.toList with
    | false =>
      rw [h2] at HD
      clear h2
      go_enter Tryz.func119, Tryz.ntmps119
      go_wp2_with fail
      refine (HI.out _).mono ?_
      rintro e w1 ⟨rfl, rfl⟩
      go_wp2_with fail
      refine (HD.out _).mono ?_
      rintro e w2 ⟨rfl, m, rfl⟩
      go_wp2_with fail
      go_ret
      exact ⟨rfl, below_drewN' ha0 _⟩
    | true =>
      rw [h2] at HD
      clear h2
      cases h3 : eqB x U4.zero with
      | false =>
        rw [h3] at HZ
        clear h3
        go_enter Tryz.func119, Tryz.ntmps119
        go_wp2_with fail
        refine (HI.out _).mono ?_
        rintro e w1 ⟨rfl, rfl⟩
        go_wp2_with fail
        refine (HD.out _).mono ?_
        rintro e w2 ⟨rfl, m, rfl⟩
        have hq := below_drewN' ha0 m
        go_wp2_with fail
        refine (HZ.out _).mono ?_
        rintro e w3 ⟨rfl, hb3⟩
        have hq3 := below_chain hq hq.size hb3
        go_wp2_with fail
        go_ret
        exact ⟨rfl, hq3⟩
      | true =>
        rw [h3] at HZ
        clear h3
        go_enter Tryz.func119, Tryz.ntmps119
        go_wp2_with fail
        refine (HI.out _).mono ?_
        rintro e w1 ⟨rfl, rfl⟩
        go_wp2_with fail
        refine (HD.out _).mono ?_
        rintro e w2 ⟨rfl, m, rfl⟩
        have hq := below_drewN' ha0 m
        go_wp2_with fail
        refine (HZ.out _).mono ?_
        rintro e w3 ⟨rfl, hb3⟩
        have hq3 := below_chain hq hq.size hb3
        go_wp2_with fail
        go_ret
        exact ⟨rfl, hq3⟩

/-- what an address has, as it is seen -/
def balV (l : List Lyr) (a d : ByteArray) : U4 := if (identB a && denomB d) = true then amtV l (kBal a d) else U4.zero
def supV (l : List Lyr) (d : ByteArray) : U4 := if denomB d = true then amtV l (kSup d) else U4.zero
theorem keyB_size {s : ByteArray} (h : keyB s = true) : s.size ≤ maxLen := by
  simp only [keyB, Bool.and_eq_true, decide_eq_true_eq] at h
  unfold maxLen; omega
theorem balV_seen {l : List Lyr} {R : List Pr} (h : SeenL ⟨#[]⟩ l R) (a d : ByteArray) : balV l a d = balM R a d := by
  unfold balV balM
  by_cases e : (identB a && denomB d) = true
  · rw [if_pos e, if_pos e]
    simp only [Bool.and_eq_true] at e
    exact amtV_seen h (keyB_size (kBal_fits e.1 e.2))
  · rw [if_neg e, if_neg e]
end Go.Proofs.YtpcoonnfaoakhaaGreatDoor
namespace Go.Proofs.YtpcoonnfaoakhaaGreatDoor
set_option maxRecDepth 100000
open Go Go.RowKit
set_option linter.unusedVariables false

set_option maxHeartbeats 2000000 in
theorem bal_any {w : World} {l : List Lyr} (h : PileS w l) (a d : ByteArray) (ha : a.size ≤ 100000000) (hd : d.size ≤ 100000000) :
    Calls Tryz.prog 13 #[topV l, .string a, .string d] w fun e w' => e = .returned (balV l a d).val ∧ Below w.heap.size w w' := by
  have HI := Lib.hid (fun W => ident_any a W (by unfold maxLen; omega))
  have ha0 : Below w.heap.size w (w.alloc (.cells #[.int .u64 0, .int .u64 0, .int .u64 0, .int .u64 0] 25)) := (Below.refl _ _).alloc (Nat.le_refl _) _
  have hk0 := heap_alloc_new w (.cells #[.int .u64 0, .int .u64 0, .int .u64 0, .int .u64 0] 25)
  have HK0 := Lib.hid hk0
  clear hk0
  have HD := Lib.hid (fun W => denom_any d W (by unfold maxLen; omega))
  obtain ⟨p, hp⟩ : ∃ p, topV l = .pointer p := by cases l <;> exact ⟨_, rfl⟩
  have HK := Lib.hid (fun W => balKey_any a d W ha hd)
  unfold balV
  cases h0 : identB a with
  | false =>
    have h0' : identL a.data.toList = false := h0
    rw [h0'] at HI
    rw [hp]
    clear h0 h0' h hp
    show Calls Tryz.prog 13 _ _ fun e w' => e = .returned U4.zero.val ∧ _
    go_enter Tryz.func13, Tryz.ntmps13
    go_wp2_with fail
    refine (HI.out _).mono ?_
    rintro e w1 ⟨rfl, rfl⟩
    have hk3 : LBlk (w.alloc (.cells #[.int .u64 0, .int .u64 0, .int .u64 0, .int .u64 0] 25)) w.heap.size U4.zero.cells := HK0.out
    obtain ⟨z0, z1, z2, z3⟩ := hk3.all
    have y0 := blk_free hk3 0
    have y1 := blk_free hk3 1
    have y2 := blk_free hk3 2
    have y3 := blk_free hk3 3
    have hk4 := LBlk.set4 (s := U4.zero) hk3 U4.zero
    obtain ⟨d0, d1, d2, d3⟩ := hk4.all
    have HD := Lib.hid (⟨d0, d1, d2, d3⟩ : _ ∧ _ ∧ _ ∧ _)
    clear hk3 hk4 d0 d1 d2 d3
    go_wp2_with fail
    obtain ⟨d0, d1, d2, d3⟩ := HD.out
    refine bodyPost_ret (v := .agg #[.int .u64 0, .int .u64 0, .int .u64 0, .int .u64 0]) ?_ rfl ⟨rfl, ?_⟩
    · simp [results, Tryz.results13, go_sem, d0, d1, d2, d3]
    · first | exact ha0 | exact (((ha0.setCell (Nat.le_refl _) _).setCell (Nat.le_refl _) _).setCell (Nat.le_refl _) _).setCell (Nat.le_refl _) _
  | true =>
    have h0' : identL a.data.toList = true := h0
    rw [h0'] at HI
    cases h1 : denomB d with
    | false =>
      have h1' : denomL d.data.toList = false := h1
      rw [h1'] at HD
      rw [hp]
      clear h1 h1' h hp h0 h0'
      show Calls Tryz.prog 13 _ _ fun e w' => e = .returned U4.zero.val ∧ _
      go_enter Tryz.func13, Tryz.ntmps13
      go_wp2_with fail
      refine (HI.out _).mono ?_
      rintro e w1 ⟨rfl, rfl⟩
      go_wp2_with fail
      refine (HD.out _).mono ?_
      rintro e w2 ⟨rfl, m, rfl⟩
      have hq := below_drewN' ha0 m
      have hk3 : LBlk ((w.alloc (.cells #[.int .u64 0, .int .u64 0, .int .u64 0, .int .u64 0] 25)).drewN m) w.heap.size U4.zero.cells := HK0.out
      obtain ⟨z0, z1, z2, z3⟩ := hk3.all
      have y0 := blk_free hk3 0
      have y1 := blk_free hk3 1
      have y2 := blk_free hk3 2
      have y3 := blk_free hk3 3
      have hk4 := LBlk.set4 (s := U4.zero) hk3 U4.zero
      obtain ⟨d0, d1, d2, d3⟩ := hk4.all
      have HD := Lib.hid (⟨d0, d1, d2, d3⟩ : _ ∧ _ ∧ _ ∧ _)
      clear hk3 hk4 d0 d1 d2 d3
      go_wp2_with fail
      obtain ⟨d0, d1, d2, d3⟩ := HD.out
      refine bodyPost_ret (v := .agg #[.int .u64 0, .int .u64 0, .int .u64 0, .int .u64 0]) ?_ rfl ⟨rfl, ?_⟩
      · simp [results, Tryz.results13, go_sem, d0, d1, d2, d3]
      · first | exact hq | exact (((hq.setCell (Nat.le_refl _) _).setCell (Nat.le_refl _) _).setCell (Nat.le_refl _) _).setCell (Nat.le_refl _) _
    | true =>
      have h1' : denomL d.data.toList = true := h1
      rw [h1'] at HD
      have HA : Hid (∀ W, Below w.heap.size w W → Calls Tryz.prog 61 #[topV l, .string (kBal a d)] W fun e w' => e = .returned (amtV l (kBal a d)).val ∧ Below W.heap.size W w') := Lib.hid fun W hb => amount_any (h.up hb) _ (keyB_size (kBal_fits h0 h1))
      show Calls Tryz.prog 13 _ _ fun e w' => e = .returned (amtV l (kBal a d)).val ∧ _
      rw [hp] at HA ⊢
      clear h1 h1' h hp h0 h0'
      generalize amtV l (kBal a d) = X at *
      unfold U4.val U4.cells at *
      go_enter Tryz.func13, Tryz.ntmps13
      go_wp2_with fail
      refine (HI.out _).mono ?_
      rintro e w1 ⟨rfl, rfl⟩
      go_wp2_with fail
      refine (HD.out _).mono ?_
      rintro e w2 ⟨rfl, m, rfl⟩
      have hq := below_drewN' ha0 m
      go_wp2_with fail
      refine (HK.out _).mono ?_
      rintro e w3 ⟨rfl, rfl⟩
      go_wp2_with fail
      refine (HA.out _ hq).mono ?_
      rintro e w4 ⟨rfl, hb4⟩
      have hq4 := below_chain hq hq.size hb4
      have hk3 : LBlk w4 w.heap.size U4.zero.cells := (hb4.block w.heap.size (Array.getElem?_eq_some_iff.1 HK0.out).1).trans HK0.out
      obtain ⟨z0, z1, z2, z3⟩ := hk3.all
      have y0 := blk_free hk3 0
      have y1 := blk_free hk3 1
      have y2 := blk_free hk3 2
      have y3 := blk_free hk3 3
      have hk4 := LBlk.set4 (s := U4.zero) hk3 X
      obtain ⟨d0, d1, d2, d3⟩ := hk4.all
      have HD := Lib.hid (⟨d0, d1, d2, d3⟩ : _ ∧ _ ∧ _ ∧ _)
      clear hk3 hk4 d0 d1 d2 d3
      go_wp2_with fail
      obtain ⟨d0, d1, d2, d3⟩ := HD.out
      refine bodyPost_ret (v := .agg #[.int .u64 X.a, .int .u64 X.b, .int .u64 X.c, .int .u64 X.d]) ?_ rfl ⟨rfl, ?_⟩
      · simp [results, Tryz.results13, go_sem, d0, d1, d2, d3]
      · exact (((hq4.setCell (Nat.le_refl _) _).setCell (Nat.le_refl _) _).setCell (Nat.le_refl _) _).setCell (Nat.le_refl _) _

/-- a store of one pile, of which R is seen, behind a call of the bank -/
def BankS (W : World) (y : Lyr) (l : List Lyr) (R : List Pr) (k : Nat) (W' : World) : Prop :=
  ∃ n f, PileS W' (⟨y.b, y.m, n, f⟩ :: l) ∧ SeenL ⟨#[]⟩ (⟨y.b, y.m, n, f⟩ :: l) R ∧ n ≤ y.n + k ∧ Chg W W' (fun k => k = y.m)
theorem BankS.refl {W : World} {y : Lyr} {l : List Lyr} {R : List Pr} (h : PileS W (y :: l)) (hs : SeenL ⟨#[]⟩ (y :: l) R) : BankS W y l R 0 W := ⟨y.n, y.f, h, hs, Nat.le_refl _, Chg.refl _ _⟩
theorem BankS.up {W W' W2 : World} {y : Lyr} {l : List Lyr} {R : List Pr} {k k' : Nat} (h : BankS W y l R k W') (hb : Below W'.heap.size W' W2) (hk : k ≤ k') : BankS W y l R k' W2 := by
  obtain ⟨n, f, h1, h2, h3, h4⟩ := h
  exact ⟨n, f, h1.up hb, h2, by omega, h4.trans' (.of_below hb _)⟩
/-- one amount kept -/
theorem BankS.keep_any {W W' : World} {y : Lyr} {l : List Lyr} {R : List Pr} {k : Nat} (h : BankS W y l R k W') (hn : y.n + k < maxLen) {key : ByteArray} (hk : keyB key = true) {x : U4} (hx : x.ok) :
    Calls Tryz.prog 122 #[.pointer (some ⟨y.b, 0, none⟩), .string key, x.val] W' fun e w' => e = .returned (.tuple #[]) ∧ BankS W y l (keepL key x R) (k + 1) w' ∧ Kept W' w' := by
  obtain ⟨n, f, h1, h2, h3, h4⟩ := h
  refine (Go.Proofs.YtpcoonnfaoakhaaGreatDoor.keep_any h1 (show n < maxLen by omega) key hk x hx).mono ?_
  rintro e w' ⟨he, hp, hc⟩
  refine ⟨he, ?_, ⟨_, hc, h1.1.maps⟩⟩
  have hs := h2.keep (keyB_size hk) x
  obtain ⟨n2, f2, e2, hn2⟩ := Lyr.keep_form ⟨y.b, y.m, n, f⟩ l.isEmpty key x
  rw [e2] at hp hs
  have hn3 : n2 ≤ n + 1 := hn2
  exact ⟨n2, f2, hp, hs, by omega, h4.trans' hc⟩
theorem Below.set4U {B : Nat} {w w' : World} {g : Nat} (h : Below B w w') (hg : B ≤ g) (x0 x1 x2 x3 : Value) : Below B w ((((w'.setCell ⟨g, 0, none⟩ x0).setCell ⟨g, 1, none⟩ x1).setCell ⟨g, 2, none⟩ x2).setCell ⟨g, 3, none⟩ x3) :=
  (((h.setCell hg _).setCell hg _).setCell hg _).setCell hg _

theorem BankS.from_ {W0 W W' : World} {y : Lyr} {l : List Lyr} {R : List Pr} {k : Nat} (h : BankS W y l R k W') (hb : Below W0.heap.size W0 W) : BankS W0 y l R k W' := by
  obtain ⟨n, f, h1, h2, h3, h4⟩ := h
  exact ⟨n, f, h1, h2, h3, (Chg.of_below hb _).trans' h4⟩
/-- a number handed in by value, in the block that the call makes for it -/
theorem boxU (w : World) (x : U4) : ∀ W, Below (w.alloc (.cells x.cells 25)).heap.size (w.alloc (.cells x.cells 25)) W → Below w.heap.size w W ∧ (W.cell? ⟨w.heap.size, 0, none⟩ = some (.int .u64 (x.a : Int)) ∧ W.cell? ⟨w.heap.size, 1, none⟩ = some (.int .u64 (x.b : Int)) ∧ W.cell? ⟨w.heap.size, 2, none⟩ = some (.int .u64 (x.c : Int)) ∧ W.cell? ⟨w.heap.size, 3, none⟩ = some (.int .u64 (x.d : Int))) := fun W hb => by
  have ha0 : Below w.heap.size w (w.alloc (.cells x.cells 25)) := (Below.refl _ _).alloc (Nat.le_refl _) _
  have hl : w.heap.size < (w.alloc (.cells x.cells 25)).heap.size := by simp
  exact ⟨below_chain ha0 ha0.size hb, ((LBlk.new w x.cells).below hb hl).all⟩
end Go.Proofs.YtpcoonnfaoakhaaGreatDoor
namespace Go.Proofs.YtpcoonnfaoakhaaGreatDoor
set_option maxRecDepth 100000
open Go.RowKit

def digits : List UInt8 := [48, 49, 50, 51, 52, 53, 54, 55, 56, 57, 97, 98, 99, 100, 101, 102]
def hex2 (x : UInt8) : List UInt8 := [digits.getD (x.toNat / 16) 0, digits.getD (x.toNat % 16) 0]
def hexOf (l : List UInt8) : List UInt8 := l.flatMap hex2

theorem hexOf_length (l : List UInt8) : (hexOf l).length = 2 * l.length := by
  induction l with
  | nil => rfl
  | cons x l ih => rw [hexOf, List.flatMap_cons, List.length_append, ← hexOf, ih, List.length_cons, show (hex2 x).length = 2 from rfl]; omega
theorem hexOf_succ (l : List UInt8) (t : Nat) (h : t < l.length) : hexOf (l.take (t + 1)) = hexOf (l.take t) ++ [digits.getD (l[t].toNat / 16) 0, digits.getD (l[t].toNat % 16) 0] := by
  unfold hexOf
  rw [List.take_add_one, List.flatMap_append, List.getElem?_eq_getElem h]
  simp [hex2]

theorem dig_at (k : Nat) (h : k < 16) (w : World) : (Instr.index 9 (.string ⟨#[48, 49, 50, 51, 52, 53, 54, 55, 56, 57, 97, 98, 99, 100, 101, 102]⟩) (.int .u8 (k : Int))).run Tryz.prog w = .ok (.int .u8 ((digits.getD k 0).toNat : Int)) w := by
  have : k = 0 ∨ k = 1 ∨ k = 2 ∨ k = 3 ∨ k = 4 ∨ k = 5 ∨ k = 6 ∨ k = 7 ∨ k = 8 ∨ k = 9 ∨ k = 10 ∨ k = 11 ∨ k = 12 ∨ k = 13 ∨ k = 14 ∨ k = 15 := by omega
  rcases this with rfl | rfl | rfl | rfl | rfl | rfl | rfl | rfl | rfl | rfl | rfl | rfl | rfl | rfl | rfl | rfl <;> rfl

theorem bits_and_u8_nat (a b : Nat) (ha : a < 256) (hb : b < 256) : bits .and .u8 (a : Int) (b : Int) = ((a &&& b : Nat) : Int) := by
  have hx : a &&& b < 2 ^ 8 := Nat.and_lt_two_pow a (by omega)
  have h1 : (BitVec.ofInt 8 (a : Int)).toNat = a := by
    rw [BitVec.ofInt_natCast, BitVec.toNat_ofNat]; exact Nat.mod_eq_of_lt (by omega)
  have h2 : (BitVec.ofInt 8 (b : Int)).toNat = b := by
    rw [BitVec.ofInt_natCast, BitVec.toNat_ofNat]; exact Nat.mod_eq_of_lt (by omega)
  show IntKind.u8.wrap ((BitVec.ofInt 8 (a : Int) &&& BitVec.ofInt 8 (b : Int)).toNat : Int) = _
  rw [BitVec.toNat_and, h1, h2]
  simp only [IntKind.wrap, IntKind.bits, IntKind.signed]
  simp
  omega
theorem and15 (x : UInt8) : bits .and .u8 (x.toNat : Int) 15 = ((x.toNat % 16 : Nat) : Int) := by
  have hx := x.toNat_lt
  have h : bits .and .u8 (x.toNat : Int) ((15 : Nat) : Int) = ((x.toNat &&& 15 : Nat) : Int) := bits_and_u8_nat x.toNat 15 hx (by omega)
  rw [show x.toNat &&& 15 = x.toNat % 16 from Nat.and_two_pow_sub_one_eq_mod x.toNat 4] at h
  exact h

set_option maxHeartbeats 1000000 in
theorem hex_any (v : Value) (l : List UInt8) (w : World) (hr : Rd w w.heap.size v l) (hl : l.length ≤ 70368744177664) :
    Calls Tryz.prog 71 #[v] w fun e w' => e = .returned (.string ⟨(hexOf l).toArray⟩) ∧ Below w.heap.size w w' := by
  obtain ⟨i0, hi, hz, hsz, hby⟩ := info_parts Tryz.infoByte
  obtain ⟨A, c, rfl, hc, hcm, hp⟩ := id hr
  go_enter Tryz.func71, Tryz.ntmps71
  go_wp2_with (
    at_make
    have hmul : (2 : Int) * (l.length : Int) = ((2 * l.length : Nat) : Int) := by omega
    refine wpList_make_own _ rfl (.const (.int .i64 0)) (.tmp 8) 27 rfl w.heap.size 5 i0 _ 1 Tryz.underlying27 hi hz hsz .i64 .i64 _ (2 * l.length) rfl rfl hmul (by rw [hby]; omega) (by simp only [maxLen]; omega) (Nat.le_refl _) ?_
    intro w0 ho0 hg0
    have hb0 : Below w.heap.size w w0 := (Below.refl _ _).grown hg0 (Nat.le_refl _) (by intro k hk; cases hk)
    replace ho0 : Own w0 w.heap.size _ [] := ho0
    have HP := Lib.hid hp
    clear hg0 hmul hp)
  go_wp2
  go_loopw [3, 12] (fun v3 i wr => ∃ t : Nat, t ≤ l.length ∧ i = .int .i64 (t : Int) ∧ Own wr w.heap.size v3 (hexOf (l.take t)) ∧ Below w.heap.size w wr)
    (fun _ i _ => l.length - (intOf i).toNat)
  case atStart => exact ⟨0, Nat.zero_le _, rfl, ho0, hb0⟩
  case round =>
    clear ho0 hb0
    obtain ⟨t, ht, rfl, ho, hb⟩ := hrel
    by_cases hlt : t < l.length
    · obtain ⟨b, o, rfl, hbl, hcell⟩ := HP.out (by omega)
      have hol : (hexOf (l.take t)).length = 2 * t := by rw [hexOf_length, List.length_take]; omega
      have hnext := hexOf_succ l t hlt
      have e := (hb.cell (p := ⟨b, o + t, none⟩) hbl).trans (hcell t hlt)
      unfold bval at e
      obtain ⟨x, hx⟩ : ∃ x, x = l[t] := ⟨_, rfl⟩
      rw [← hx] at e hnext
      have HN := Lib.hid hnext
      clear hnext hx hcell HP
      have hx16 : x.toNat / 16 < 16 := by have := x.toNat_lt; omega
      have d1 := dig_at (x.toNat / 16) hx16
      have d2 := dig_at (x.toNat % 16) (by omega)
      have k1 : (x.toNat : Int) / 16 = ((x.toNat / 16 : Nat) : Int) := by omega
      have k2 := and15 x
      have k3 : (x.toNat : Int) / 2 ^ 4 = ((x.toNat / 16 : Nat) : Int) := by omega
      generalize x.toNat / 16 = h1 at *
      generalize x.toNat % 16 = h2 at *
      have i1 : (0 : Int) ≤ (t : Int) := by omega
      have i2 : (t : Int) < (l.length : Int) := by omega
      go_wp2
      go_region_held_law (fun _ => True) (trivial)
        ((rw [if_pos (by rfl)]; refine wp_append_rd (.tmp 16) (.tmp 23) _ rfl i0 Tryz.underlying27 hi hz hsz hby rfl (ho.drew.alloc _) rfl (rd_lit _ _ [digits.getD h1 0, digits.getD h2 0] 2 rfl (by simp [bcells, bval]) (by simp [maxLen])) (by rw [hol]; simp; omega) (by have := hb.size; simp; omega) ?_; intro v3 w3 ho3 hg3 _))
      all_goals
        have hb3 : Below w.heap.size w w3 := Own.below_grown (hb.drew.alloc hb.size _) (ho.drew.alloc _) (Nat.le_refl _) (by have := hb.size; simp; omega) hg3
        rw [← HN.out] at ho3
        clear hg3 d1 d2
        go_wp2
        go_roundw
        case rel => exact ⟨t + 1, by omega, by go_num, ho3, hb3⟩
        case measure => simp [intOf]; omega
    · have hte : t = l.length := by omega
      have i2 : ¬ (t : Int) < (l.length : Int) := by omega
      have hrd := ho.rd
      rw [hte, List.take_of_length_le (Nat.le_refl _)] at hrd
      have hcv := run_str (P := Tryz.prog) Tryz.underlying27 Tryz.underlying5 Tryz.isString hrd
      clear hte HP
      go_wp2
      go_ret
      exact ⟨rfl, hb⟩
end Go.Proofs.YtpcoonnfaoakhaaGreatDoor
namespace Go.Proofs.YtpcoonnfaoakhaaGreatDoor
set_option maxRecDepth 100000
open Go.RowKit

theorem digit_cut (k : Nat) (h : k < 16) (w : World) : (Instr.slice 9 (.string ⟨#[48, 49, 50, 51, 52, 53, 54, 55, 56, 57, 97, 98, 99, 100, 101, 102]⟩) (some (.int .u8 (k : Int))) (some (.int .u8 ((k + 1 : Nat) : Int))) none).run Tryz.prog w = .ok (.string ⟨#[digits.getD k 0]⟩) w := by
  have : k = 0 ∨ k = 1 ∨ k = 2 ∨ k = 3 ∨ k = 4 ∨ k = 5 ∨ k = 6 ∨ k = 7 ∨ k = 8 ∨ k = 9 ∨ k = 10 ∨ k = 11 ∨ k = 12 ∨ k = 13 ∨ k = 14 ∨ k = 15 := by omega
  rcases this with rfl | rfl | rfl | rfl | rfl | rfl | rfl | rfl | rfl | rfl | rfl | rfl | rfl | rfl | rfl | rfl <;> rfl
theorem two_add (x y : UInt8) (w : World) : (Op.stringOp .add ⟨#[x]⟩ ⟨#[y]⟩).run Tryz.prog w = .ok (.string ⟨#[x, y]⟩) w :=
  run_string_add_sum (P := Tryz.prog) (w := w) ⟨#[x]⟩ ⟨#[y]⟩ (by show 2 ≤ 9223372036854775807; omega)
theorem list_add (l m : List UInt8) (h : l.length + m.length ≤ 9223372036854775807) (w : World) : (Op.stringOp .add ⟨l.toArray⟩ ⟨m.toArray⟩).run Tryz.prog w = .ok (.string ⟨(l ++ m).toArray⟩) w := by
  have := run_string_add_sum (P := Tryz.prog) (w := w) ⟨l.toArray⟩ ⟨m.toArray⟩ (by simpa [ByteArray.size] using h)
  rw [this]
  congr 2

set_option maxHeartbeats 1000000 in
theorem refHex_any (v : Value) (l : List UInt8) (w : World) (hr : Rd w w.heap.size v l) (hl : l.length ≤ 70368744177664) :
    Calls Tryz.prog 73 #[v] w fun e w' => e = .returned (.string ⟨(hexOf l).toArray⟩) ∧ Below w.heap.size w w' := by
  obtain ⟨A, c, rfl, hc, hcm, hp⟩ := id hr
  go_enter Tryz.func73, Tryz.ntmps73
  have HP := Lib.hid hp
  clear hp
  go_wp2
  go_loopw [4, 9] (fun s i wr => ∃ t : Nat, t ≤ l.length ∧ i = .int .i64 (t : Int) ∧ s = .string ⟨(hexOf (l.take t)).toArray⟩ ∧ Below w.heap.size w wr)
    (fun _ i _ => l.length - (intOf i).toNat)
  case atStart => exact ⟨0, Nat.zero_le _, rfl, rfl, Below.refl _ _⟩
  case round =>
    obtain ⟨t, ht, rfl, rfl, hb⟩ := hrel
    by_cases hlt : t < l.length
    · obtain ⟨b, o, rfl, hbl, hcell⟩ := HP.out (by omega)
      have hol : (hexOf (l.take t)).length = 2 * t := by rw [hexOf_length, List.length_take]; omega
      have hnext := hexOf_succ l t hlt
      have e := (hb.cell (p := ⟨b, o + t, none⟩) hbl).trans (hcell t hlt)
      unfold bval at e
      obtain ⟨x, hx⟩ : ∃ x, x = l[t] := ⟨_, rfl⟩
      rw [← hx] at e hnext
      have hx16 : x.toNat / 16 < 16 := by have := x.toNat_lt; omega
      have hc2 := fun W => list_add (hexOf (l.take t)) [digits.getD (x.toNat / 16) 0, digits.getD (x.toNat % 16) 0] (by rw [hol]; simp; omega) W
      rw [← hnext] at hc2
      have hc1 := fun W => two_add (digits.getD (x.toNat / 16) 0) (digits.getD (x.toNat % 16) 0) W
      clear hnext hx hcell HP hol
      have d1 := fun W => digit_cut (x.toNat / 16) hx16 W
      have d2 := fun W => digit_cut (x.toNat % 16) (by omega) W
      have k1 : (x.toNat : Int) / 16 = ((x.toNat / 16 : Nat) : Int) := by omega
      have k2 := and15 x
      have k3 : (x.toNat : Int) / 2 ^ 4 = ((x.toNat / 16 : Nat) : Int) := by omega
      have hm16 : x.toNat % 16 < 16 := by omega
      generalize x.toNat / 16 = h1 at *
      generalize x.toNat % 16 = h2 at *
      have w1 : IntKind.u8.wrap ((h1 : Int) + 1) = ((h1 + 1 : Nat) : Int) := by simp only [IntKind.wrap, IntKind.bits, IntKind.signed]; simp; omega
      have w2 : IntKind.u8.wrap ((h2 : Int) + 1) = ((h2 + 1 : Nat) : Int) := by simp only [IntKind.wrap, IntKind.bits, IntKind.signed]; simp; omega
      generalize ((h1 + 1 : Nat) : Int) = q1 at *
      generalize ((h2 + 1 : Nat) : Int) = q2 at *
      generalize digits.getD h1 0 = g1 at *
      generalize digits.getD h2 0 = g2 at *
      generalize hexOf (l.take t) = s0 at *
      obtain ⟨s1, hs1⟩ : ∃ s1, s1 = hexOf (l.take (t + 1)) := ⟨_, rfl⟩
      rw [← hs1] at hc2
      have i1 : (0 : Int) ≤ (t : Int) := by omega
      have i2 : (t : Int) < (l.length : Int) := by omega
      go_wp2_with fail
      go_quiet (fail)
      go_wp2
      go_roundw
      case rel => exact ⟨t + 1, by omega, by go_num, by first | rfl | rw [hs1], below_drewN' hb _⟩
      case measure => simp [intOf]; omega
    · have hte : t = l.length := by omega
      have i2 : ¬ (t : Int) < (l.length : Int) := by omega
      rw [hte, List.take_of_length_le (Nat.le_refl _)]
      clear hte HP
      go_wp2
      go_ret
      exact ⟨rfl, hb⟩
end Go.Proofs.YtpcoonnfaoakhaaGreatDoor
