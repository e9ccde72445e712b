/- The walk of the law: what stands ahead doesn't matter. -/
import Derived.Test.YtfbohjfdpcolgaaWireFx
import Derived.Test.YtfbohjfdpcolgaaHeldBy
namespace Go.Proofs.Ytfbohjfdpcolgaa
open Go Go.RowKit

def formP (m : List UInt8) : List UInt8 := be (m.take 65535).length 4 ++ m.take 65535
theorem neII {w5 w6 : World} {vf1 vp : Value} {C : Obj} (h : ∀ k, vf1.ownBlock = some k → (w5.alloc C).heap.size ≤ k ∧ k < w6.heap.size) (hn : vp.ownBlock = (Value.slice (some ⟨w5.heap.size, 0, none⟩) 0 0).ownBlock ∨ vp.ownBlock = some w6.heap.size) :
    ∀ k, vf1.ownBlock = some k → vp.ownBlock ≠ some k := by
  intro k e e2
  have h1 := h k e
  simp at h1
  rcases hn with h2 | h2
  · rw [e2] at h2
    have h3 : k = w5.heap.size := by injection h2
    omega
  · rw [e2] at h2
    injection h2 with h3
    omega
theorem same_yes (a b : Value) (l : List UInt8) (w : World) (ha : Rd w w.heap.size a l) (hb : Rd w w.heap.size b l) :
    Calls Try.prog 14 #[a, b] w fun e w' => e = .returned (.bool true) ∧ Below w.heap.size w w' := by
  have h := same_any a b l l w ha hb
  rw [sameB_refl] at h
  exact h
theorem own_emptyB {B : Nat} (w : World) (hB : B ≤ w.heap.size) : Own (w.alloc (.cells #[] 5)) B (.slice (some ⟨w.heap.size, 0, none⟩) 0 0) [] := (own_empty w (Nat.le_refl _)).more hB
/-- the box of an operation, and what is known behind each step -/
def AB (g : Nat) (C : Array Value) (w w' : World) : Prop :=
  w'.heap[g]? = some (.cells C 25 (0, 0)) ∧ Below w.heap.size w w' ∧ w.heap.size ≤ w'.heap.size
section
variable {g : Nat} {C : Array Value} {w w' w'' : World}
theorem AB.new (w : World) (C : Array Value) : AB w.heap.size C w (w.alloc (.cells C 25)) := ⟨heap_alloc_new w _, (Below.refl _ _).alloc (Nat.le_refl _) _, by simp⟩
theorem AB.below (a : AB g C w w') (hb : Below w'.heap.size w' w'') : AB g C w w'' := ⟨(hb.block g (blk_lt a.1)).trans a.1, below_chain a.2.1 a.2.2 hb, Nat.le_trans a.2.2 hb.size⟩
theorem AB.again (a : AB g C w w') : AB g C w' w' := ⟨a.1, Below.refl _ _, Nat.le_refl _⟩
theorem AB.drew (a : AB g C w w') : AB g C w w'.drew := ⟨a.1, a.2.1.drew, a.2.2⟩
theorem AB.alloc (a : AB g C w w') (o : Obj) : AB g C w (w'.alloc o) := a.below ((Below.refl _ _).alloc (Nat.le_refl _) o)
theorem AB.lt (a : AB g C w w') : g < w'.heap.size := blk_lt a.1
theorem AB.s {kind most : Int} {n : Nat} {m : List UInt8} {A' : Option Addr} {c' : Nat} {yes : Bool} (a : AB g #[.int .i64 kind, .int .i64 most, .int .u64 (n : Int), .slice A' m.length c', .bool yes] w w') :
    w'.cell? ⟨g, 2, none⟩ = some (.int .u64 (n : Int)) ∧ w'.cell? ⟨g, 3, none⟩ = some (.slice A' m.length c') ∧ w'.cell? ⟨g, 4, none⟩ = some (.bool yes) := ⟨blk_cell a.1 2, blk_cell a.1 3, blk_cell a.1 4⟩
/-- an append to a row of the call's own, made behind the box -/
theorem AB.grown {v : Value} {B : Nat} {l : List UInt8} (a : AB g C w w') (h : Own w' B v l) (hB : g < B) (hB2 : w.heap.size ≤ B) (hg : w'.grownBy w'' v.ownBlock) : AB g C w w'' := by
  have hne : v.ownBlock ≠ some g := fun e => by have := (h.lt _ e).1; omega
  have hb := Own.below_grown a.2.1 h hB2 a.2.2 hg
  exact ⟨(hg.block g a.lt (Ne.symm hne)).trans a.1, hb, hb.size⟩
end

set_option maxHeartbeats 4000000 in
set_option maxRecDepth 100000 in
theorem aside_walk (A A' : Option Addr) (c c' : Nat) (l m : List UInt8) (kind most : Int) (n : Nat) (yes : Bool) (w : World) (hb : Rd w w.heap.size (.slice A l.length c) l) (hx : Rd w w.heap.size (.slice A' m.length c') m)
    (h1 : n < 18446744073709551616) (hl : l.length ≤ 1048576) :
    Calls Try.prog 8 #[.slice A l.length c, .agg #[.int .i64 kind, .int .i64 most, .int .u64 (n : Int), .slice A' m.length c', .bool yes]] w fun e w' => e = .returned (.bool true) ∧ Below w.heap.size w w' := by
  obtain ⟨i0, hi, hz, hsz, hby⟩ := info_parts Try.infoByte
  have hb0 := AB.new w #[.int .i64 kind, .int .i64 most, .int .u64 (n : Int), .slice A' m.length c', .bool yes]
  obtain ⟨a, ha⟩ : ∃ a, a = l.length := ⟨_, rfl⟩
  rw [← ha] at hb
  have HLw := Lib.hid hb
  have HXw := Lib.hid hx
  clear hb hx
  have HA := Lib.hid ha
  have HLl := hl
  rw [← ha] at hl ⊢
  clear ha
  go_enter Try.func8, Try.ntmps8
  go_wp2_with fail
  generalize w.alloc (.cells #[.int .i64 kind, .int .i64 most, .int .u64 (n : Int), .slice A' m.length c', .bool yes] 25) = w0 at *
  obtain ⟨g, hg⟩ : ∃ g, g = w.heap.size := ⟨_, rfl⟩
  rw [← hg] at hb0
  simp only [← hg]
  have HG := Lib.hid hg
  clear hg
  have hD := hb0.drew
  obtain ⟨Ba, hBa⟩ : ∃ B, B = g + 1 := ⟨_, rfl⟩
  have hga : g < Ba := by omega
  have hba : w.heap.size ≤ Ba := by have := HG.out; omega
  have hlta : Ba ≤ w0.drew.heap.size := by have := hD.lt; omega
  replace hBa : Ba ≤ g + 1 := by omega
  go_region_held_law (fun W => W.cell? ⟨g, 2, none⟩ = some (.int .u64 (n : Int)) ∧ W.cell? ⟨g, 3, none⟩ = some (.slice A' m.length c') ∧ W.cell? ⟨g, 4, none⟩ = some (.bool yes))
    (first | exact hAla.s | exact hAFa.s | exact hApa.s | exact hD.s | exact (hD.alloc (.cells #[] 5)).s)
    (first
      | (go_at_call 10; (refine (B_any (.slice none 0 0) _ [] m _ (Rd.nil _ _) (HXw.out.up (Nat.le_refl _) hApa.2.1) (by simp)).mono ?_; rintro e wca ⟨vca, rfl, hoca, hbca⟩; have hAFa := hApa.below hbca; have hoFa := hopa.below hbca; have hrFa := hoca.rd))
      | (rw [if_pos (by rfl)]; refine wp_append_rd (.tmp 9) (.tmp 12) _ rfl i0 Try.underlying22 hi hz hsz hby rfl hoFa rfl hrFa (by simp only [List.length_append, be_length, List.length_take, List.length_nil]; omega) (by have := hAFa.lt; have := hAFa.2.2; omega) ?_; intro vla wla hola hgla _; have hAla := hAFa.grown hoFa (by omega) (by omega) hgla)
      | (rw [if_pos (by rfl)]; refine wp_append_rd (.tmp 7) (.tmp 8) _ rfl i0 Try.underlying22 hi hz hsz hby rfl (own_emptyB (B := Ba) _ hlta) rfl (HLw.out.up (Nat.le_refl _) (hD.alloc (.cells #[] 5)).2.1) (by simp only [List.length_nil]; omega) (Nat.le_trans hlta (by simp)) ?_; intro vpa wpa hopa hgpa _; have hApa := (hD.alloc (.cells #[] 5)).grown (own_emptyB (B := Ba) _ hlta) (by omega) (by omega) hgpa))
  have HLb := Lib.hid (HLw.out.up (Nat.le_refl _) hAla.2.1)
  have HXb := Lib.hid (HXw.out.up (Nat.le_refl _) hAla.2.1)
  replace hola : Own wla Ba vla (l ++ formP m) := hola
  have hD2 := hAla.again.drew
  have hw1 := Lib.hid hAla.2
  clear hD hAla hb0 hAFa hoFa hrFa hopa hApa hgpa hgla hoca hbca hlta
  have HO1 := Lib.hid hola
  clear hola
  obtain ⟨Bb, hBb⟩ : ∃ B, B = wla.heap.size := ⟨_, rfl⟩
  have hgb : g < Bb := by have := hD2.lt; rw [hBb]; exact this
  have hbb : wla.heap.size ≤ Bb := by omega
  have hltb : Bb ≤ wla.drew.heap.size := by rw [hBb]; exact Nat.le_refl _
  replace hBb : Bb ≤ wla.heap.size := by omega
  simp only [Act.put, List.setIfInBounds_toArray, List.set_cons_zero, List.set_cons_succ, List.getElem_toArray, List.getElem_cons_zero, List.getElem_cons_succ]
  go_wp2_with fail
  go_region_held_law (fun W => W.cell? ⟨g, 2, none⟩ = some (.int .u64 (n : Int)) ∧ W.cell? ⟨g, 3, none⟩ = some (.slice A' m.length c') ∧ W.cell? ⟨g, 4, none⟩ = some (.bool yes))
    (first | exact hAlb.s | exact hAFb.s | exact hApb.s | exact hD2.s | exact (hD2.alloc (.cells #[] 5)).s)
    (first
      | (go_at_call 9; (refine (N_any (.slice none 0 0) [] n _ (Rd.nil _ _) h1 (by simp)).mono ?_; rintro e wcb ⟨vcb, rfl, hocb, hbcb⟩; have hAFb := hApb.below hbcb; have hoFb := hopb.below hbcb; have hrFb := hocb.rd))
      | (rw [if_pos (by rfl)]; refine wp_append_rd (.tmp 16) (.tmp 19) _ rfl i0 Try.underlying22 hi hz hsz hby rfl hoFb rfl hrFb (by simp only [List.length_append, be_length, List.length_take, List.length_nil]; omega) (by have := hAFb.lt; have := hAFb.2.2; omega) ?_; intro vlb wlb holb hglb _; have hAlb := hAFb.grown hoFb (by omega) (by omega) hglb)
      | (rw [if_pos (by rfl)]; refine wp_append_rd (.tmp 14) (.tmp 15) _ rfl i0 Try.underlying22 hi hz hsz hby rfl (own_emptyB (B := Bb) _ hltb) rfl (HLb.out.up (Nat.le_refl _) (hD2.alloc (.cells #[] 5)).2.1) (by simp only [List.length_nil]; omega) (Nat.le_trans hltb (by simp)) ?_; intro vpb wpb hopb hgpb _; have hApb := (hD2.alloc (.cells #[] 5)).grown (own_emptyB (B := Bb) _ hltb) (by omega) (by omega) hgpb))
  simp only [Act.put, List.setIfInBounds_toArray, List.set_cons_zero, List.set_cons_succ, List.getElem_toArray, List.getElem_cons_zero, List.getElem_cons_succ]
  have hwlb := hAlb.2.1
  replace holb : Own wlb Bb vlb (l ++ be n 8) := holb
  have R0 := Lib.hid (HLb.out.up (Nat.le_refl _) hwlb)
  have X0 := Lib.hid (HXb.out.up (Nat.le_refl _) hwlb)
  have RX := Lib.hid (HO1.out.rd.up (Nat.le_refl _) hwlb)
  have RY := Lib.hid holb.rd
  have hD3 := hAlb.again.drew
  have HW2 := Lib.hid hAlb.2
  clear hwlb hD2 hAlb hAFb hoFb hrFb hopb hApb hgpb hglb hocb hbcb holb hltb
  obtain ⟨Bc, hBc⟩ : ∃ B, B = wlb.heap.size := ⟨_, rfl⟩
  have hgc : g < Bc := by have := hD3.lt; rw [hBc]; exact this
  have hbc : wlb.heap.size ≤ Bc := by omega
  have hltc : Bc ≤ wlb.drew.heap.size := by rw [hBc]; exact Nat.le_refl _
  replace hBc : Bc ≤ wlb.heap.size := by omega
  obtain ⟨fl, hfl⟩ : ∃ fl : List UInt8, fl = [fb yes] := ⟨_, rfl⟩
  have hfn : fl.length = 1 := by rw [hfl]; rfl
  have F1 := Lib.hid (fun (v : Value) (l : List UInt8) (W : World) (r : Rd W W.heap.size v l) (h : l.length ≤ 140737488355320) => F_any v yes l W r h)
  rw [← hfl] at F1
  have HN := Lib.hid hfn
  clear hfl hfn
  go_wp2_with fail
  go_region_held_law (fun W => W.cell? ⟨g, 2, none⟩ = some (.int .u64 (n : Int)) ∧ W.cell? ⟨g, 3, none⟩ = some (.slice A' m.length c') ∧ W.cell? ⟨g, 4, none⟩ = some (.bool yes))
    (first | exact hA10.s | exact hA9.s | exact hA8.s | exact hA7.s | exact (hA6.alloc (.cells #[] 5)).s | exact hA6.s | exact (hA5.alloc (.cells #[] 5)).s | exact hA5.s | exact hA4.s | exact hA3.s | exact hA2.s | exact hA1.s | exact hD3.s)
    (first
      | (go_at_call 14; first
          | (refine (same_yes vf1 vz (l ++ fl) _ rf9 hoz.rd).mono ?_; rintro e w10 ⟨rfl, hb10⟩; have hA10 := hA9.below hb10)
          | (refine (same_yes v4 vlb (l ++ be n 8) _ r4 (RY.out.up (Nat.le_refl _) hA4.2.1)).mono ?_; rintro e w5 ⟨rfl, hb5⟩; have hA5 := hA4.below hb5; have rF5 := R0.out.up (Nat.le_refl _) hA5.2.1; have hlF : l.length ≤ 140737488355320 := (by omega))
          | (refine (same_yes v2 vla (l ++ formP m) _ r2 (RX.out.up (Nat.le_refl _) hA2.2.1)).mono ?_; rintro e w3 ⟨rfl, hb3⟩; have hA3 := hA2.below hb3))
      | (go_at_call 12; first
          | (have hA7' := hA7; refine (F1.out (.slice none 0 0) [] _ (Rd.nil _ _) (by simp)).mono ?_; rintro e w8 ⟨vf2, rfl, hof2, hb8⟩; have hA8 := hA7.below hb8; have ho8 := ho7.below hb8; have hof8 := hof7.below hb8; have rg8 := hof2.rd)
          | (with_reducible refine (F1.out (.slice A a c) l w5 rF5 hlF).mono ?_; rintro e w6 ⟨vf1, rfl, hof1, hb6⟩; have hA6 := hA5.below hb6)
          | (refine (F1.out (.slice A a c) l _ (R0.out.up (Nat.le_refl _) (hA5.alloc (.cells #[] 5)).2.1) (by omega)).mono ?_; rintro e w6 ⟨vf1, rfl, hof1, hb6⟩; have hA6 := (hA5.alloc (.cells #[] 5)).below hb6; have hoE := (own_emptyB (B := Bc) w5 (Nat.le_trans hBc hA5.2.2)).below hb6; have hE5 := hof1.lt))
      | (go_at_call 9; refine (N_any (.slice A a c) l n _ (R0.out.up (Nat.le_refl _) hA3.2.1) h1 (by omega)).mono ?_; rintro e w4 ⟨v4, rfl, ho4, hb4⟩; have hA4 := hA3.below hb4; have r4 := ho4.rd)
      | (go_at_call 10; refine (B_any (.slice A a c) _ l m _ (R0.out.up (Nat.le_refl _) hA1.2.1) (X0.out.up (Nat.le_refl _) hA1.2.1) (by omega)).mono ?_; rintro e w2 ⟨v2, rfl, ho2, hb2⟩; rw [List.append_assoc] at ho2; have hA2 := hA1.below hb2; have r2 := ho2.rd)
      | (go_at_call 13; refine (fixed_any _).mono ?_; rintro e w1 ⟨rfl, hb1⟩; have hA1 := hD3.below hb1)
      | (rw [if_pos (by rfl)]; refine wp_append_rd (.tmp 45) (.tmp 48) _ rfl i0 Try.underlying22 hi hz hsz hby rfl ho8 rfl rg8 (by have := HN.out; simp only [List.length_append, List.length_nil]; omega) (by have := hA8.lt; have := hA8.2.2; omega) ?_; intro vz w9 hoz hg9 _; have hA9 := hA8.grown ho8 (by omega) (by omega) hg9; have rf9 := (hof8.grown hg9 (by rcases hq : vf1.ownBlock with _ | k; exact .inl rfl; exact .inr (fun e => NE k hq e.symm))).rd)
      | (rw [if_pos (by rfl)]; first
          | (refine wp_append_rd (.tmp 43) (.tmp 44) _ rfl i0 Try.underlying22 hi hz hsz hby rfl hoE rfl (R0.out.up (Nat.le_refl _) hA6.2.1) (by simp only [List.length_nil]; omega) (Nat.le_trans hBc hA6.2.2) ?_; intro vp w7 ho7 hg7 hn7; have hA7 := hA6.grown hoE (by omega) (by omega) hg7; have hof7 := hof1.grown hg7 (.inr (fun e => absurd (hE5 w5.heap.size e).1 (by simp))); have NE : ∀ k, vf1.ownBlock = some k → vp.ownBlock ≠ some k := neII hE5 hn7)
          | (refine wp_append_rd (.tmp 43) (.tmp 44) _ rfl i0 Try.underlying22 hi hz hsz hby rfl (own_empty w6 (Nat.le_refl _)) rfl (R0.out.up (Nat.le_refl _) (hA6.alloc (.cells #[] 5)).2.1) (by simp only [List.length_nil]; omega) (by simp) ?_; intro vp w7 ho7' hg7 hn7; have hA7 := (hA6.alloc (.cells #[] 5)).grown (own_empty w6 (Nat.le_refl _)) hA6.lt hA6.2.2 hg7; have ho7 := ho7'.more (Nat.le_trans hBc hA6.2.2); have hof7 := (hof1.alloc (.cells #[] 5)).grown hg7 (.inr (fun e => by have := (hof1.lt _ e).2; simp at this)); have NE : ∀ k, vf1.ownBlock = some k → vp.ownBlock ≠ some k := fun k e e2 => by have := (hof1.lt _ e).2; have := (ho7'.lt _ e2).1; omega)))
  all_goals
    have q1 := below_chain hw1.out.1 hw1.out.2 HW2.out.1
    have q2 := below_chain q1 q1.size hA10.2.1
    clear hA1 hA2 hA3 hA4 hA5 hA6 hA7 hA8 hA9 hA10 hof7 hof8 ho7 ho8 hg7 hg9 hD3
    go_wp2_with fail
    go_ret
    have hg := HG.out
    subst hg
    exact ⟨rfl, q2⟩
end Go.Proofs.Ytfbohjfdpcolgaa
