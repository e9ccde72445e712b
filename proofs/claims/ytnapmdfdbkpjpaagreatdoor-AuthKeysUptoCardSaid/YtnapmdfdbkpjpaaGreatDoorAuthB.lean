
/- The walk of an account's row being put. -/
import Derived.Test.YtnapmdfdbkpjpaaGreatDoorAuthA
import Derived.Deep.RegionHeldLaw
namespace Go.Proofs.YtnapmdfdbkpjpaaGreatDoor
set_option maxRecDepth 100000
open Go Go.RowKit
set_option linter.unusedVariables false

set_option maxHeartbeats 4000000 in
theorem aput_any {W W' : World} {y : Lyr} {R : List Pr} {k : Nat} (h : Acc W y R k W') (hn : y.n + k < maxLen) (a : ByteArray) (ha : keyB (kAcc a) = true) (v : Value) (r : List UInt8) (hr : Rd W' W'.heap.size v r) (hl : r.length ≤ 60000) (b s : Nat) (hb : b < 18446744073709551616) (hs : s < 18446744073709551616) :
    Calls Tryz.prog 22 #[.pointer (some ⟨y.b, 0, none⟩), .string a, .agg #[v, .int .u64 (b : Int), .int .u64 (s : Int)]] W' fun e w' => e = .returned (.tuple #[]) ∧ Acc W y (putA R a r b s) (k + 1) w' ∧ Kept W' w' := by
  have hk2 : (kAcc a).size ≤ 200 := by simp only [keyB, Bool.and_eq_true, decide_eq_true_eq] at ha; exact ha.2
  have has : a.size ≤ 200 := by have := kAcc_size a; omega
  have HK := Lib.hid (fun W => (accKey_any a W (by omega)).mono fun e w' ⟨h1, h2⟩ => (⟨h1, h2.symm⟩ : _ ∧ w' = W))
  have hpb : pairB (kAcc a, accB r b s) = true := by
    unfold pairB
    simp only [Bool.and_eq_true, decide_eq_true_eq]
    exact ⟨ha, accB_len hl⟩
  have hbox := heap_alloc_new W' (.cells #[v, .int .u64 (b : Int), .int .u64 (s : Int)] 31)
  have ha0 : Below W'.heap.size W' (W'.alloc (.cells #[v, .int .u64 (b : Int), .int .u64 (s : Int)] 31)) := (Below.refl _ _).alloc (Nat.le_refl _) _
  have hr0 := hr.up (Nat.le_refl _) ha0
  have A0 := h.up ha0
  obtain ⟨A, c, rfl⟩ := hr.form
  obtain ⟨n, hnn⟩ : ∃ n, n = r.length := ⟨_, rfl⟩
  rw [← hnn] at hr0 hbox ha0 A0 ⊢
  have HNN := Lib.hid hnn
  clear hr h hnn
  generalize hW0 : W'.alloc (.cells #[.slice A n c, .int .u64 (b : Int), .int .u64 (s : Int)] 31) = W0 at *
  have hgl := blk_lt hbox
  have HC : Hid (∀ Z, Kept W0 Z → Z.cell? ⟨W'.heap.size, 0, none⟩ = some (.slice A n c) ∧ Z.cell? ⟨W'.heap.size, 1, none⟩ = some (.int .u64 (b : Int)) ∧ Z.cell? ⟨W'.heap.size, 2, none⟩ = some (.int .u64 (s : Int))) := Lib.hid fun Z hz =>
    ⟨hz.cell (blk_cell hbox 0), hz.cell (blk_cell hbox 1), hz.cell (blk_cell hbox 2)⟩
  have hkD := Kept.drew W0
  have HB := Lib.hid (B_any (.slice none 0 0) (.slice A n c) [] r W0.drew (Rd.nil _ _) (hkD.rd hr0) (by simp))
  have HN1 : Hid (∀ (v : Value) (Z : World) (B : Nat), Own Z B v ([] ++ be (r.take 65535).length 4 ++ r.take 65535) → Calls Tryz.prog 37 #[v, .int .u64 (b : Int)] Z fun e w' => ∃ v', e = .returned v' ∧ Own w' Z.heap.size v' (([] ++ be (r.take 65535).length 4 ++ r.take 65535) ++ be b 8) ∧ Below Z.heap.size Z w') :=
    Lib.hid fun v Z B ho => N_any v _ b Z ho.rd hb (by simp [be_length]; omega)
  have HN2 : Hid (∀ (v : Value) (Z : World) (B : Nat), Own Z B v (([] ++ be (r.take 65535).length 4 ++ r.take 65535) ++ be b 8) → Calls Tryz.prog 37 #[v, .int .u64 (s : Int)] Z fun e w' => ∃ v', e = .returned v' ∧ Own w' Z.heap.size v' ((([] ++ be (r.take 65535).length 4 ++ r.take 65535) ++ be b 8) ++ be s 8) ∧ Below Z.heap.size Z w') :=
    Lib.hid fun v Z B ho => N_any v _ s Z ho.rd hs (by simp [be_length]; omega)
  have HST : Hid (∀ (v : Value) (Z : World) (B : Nat), Below W0.drew.heap.size W0.drew Z → Own Z B v ((([] ++ be (r.take 65535).length 4 ++ r.take 65535) ++ be b 8) ++ be s 8) → Calls Tryz.prog 14 #[.pointer (some ⟨y.b, 0, none⟩), .string (kAcc a), v] Z fun e w' => e = .returned (.int .i64 0) ∧ Acc W y (putA R a r b s) (k + 1) w' ∧ Kept Z w') :=
    Lib.hid fun v Z B hz ho => ((A0.up (Below.drew (Below.refl _ _))).up hz).set hn (kAcc a) (by unfold maxLen; omega) v (accB r b s) (ho.rd' (by simp [accB, encB])) hpb
  have hkW : Kept W' W0 := Kept.of_below ha0
  generalize [] ++ be (r.take 65535).length 4 ++ r.take 65535 = l1 at *
  generalize l1 ++ be b 8 = l2 at *
  generalize l2 ++ be s 8 = l3 at *
  generalize putA R a r b s = R2 at *
  clear hpb A0 hr0 hbox hgl ha hl hb hs hk2 has
  go_enter Tryz.func22, Tryz.ntmps22
  go_wp2_with fail
  try rw [hW0]
  clear hW0 ha0
  go_region_held_law (fun Z => Z.cell? ⟨W'.heap.size, 0, none⟩ = some (.slice A n c) ∧ Z.cell? ⟨W'.heap.size, 1, none⟩ = some (.int .u64 (b : Int)) ∧ Z.cell? ⟨W'.heap.size, 2, none⟩ = some (.int .u64 (s : Int)))
    (with_reducible first | exact HC.out _ hkF | exact HC.out _ hkM | exact HC.out _ hkN | exact HC.out _ hkB | exact HC.out _ hkD)
    ((first
      | (go_at_call 17; refine (HK.out _).mono ?_; rintro e w9 ⟨rfl, rfl⟩)
      | (go_at_call 38; refine HB.out.mono ?_; rintro e wB ⟨vB, rfl, hoB, hqB⟩; have hkB := hkD.trans (Kept.of_below hqB))
      | (go_at_call 37; first
          | (refine (HN2.out _ _ _ hoN).mono ?_; rintro e wM ⟨vM, rfl, hoM, hbM⟩; have hqM := below_chain hqN hqN.size hbM; have hkM := hkD.trans (Kept.of_below hqM))
          | (refine (HN1.out _ _ _ hoB).mono ?_; rintro e wN ⟨vN, rfl, hoN, hbN⟩; have hqN := below_chain hqB hqB.size hbN; have hkN := hkD.trans (Kept.of_below hqN)))
      | (go_at_call 14; refine (HST.out _ _ _ hqM hoM).mono ?_; rintro e wS ⟨rfl, AS, hkS⟩; have hkF := hkM.trans hkS)))
  all_goals
    have hfin := hkW.trans hkF
    go_wp2_with fail
    go_end0
    exact ⟨rfl, AS, hfin⟩
end Go.Proofs.YtnapmdfdbkpjpaaGreatDoor
