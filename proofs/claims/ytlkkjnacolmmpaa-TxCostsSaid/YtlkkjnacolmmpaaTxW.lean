
/- The walks of a transaction's writer: numbers, texts, bytes put behind what is there. -/
import Derived.Test.YtlkkjnacolmmpaaWireW0
import Derived.Test.YtlkkjnacolmmpaaWireR
import Derived.Test.YtlkkjnacolmmpaaEncB1
import Derived.Test.YtlkkjnacolmmpaaLimbX0
import Derived.Deep.RegionLaw
namespace Go.Proofs.Ytlkkjnacolmmpaa
set_option maxRecDepth 100000
open Go Go.RowKit
set_option linter.unusedVariables false

/-- a writer at block g whose row L lies in blocks from B on -/
def WrA (W : World) (B g : Nat) (L : List UInt8) : Prop := ∃ v, W.heap[g]? = some (.cells #[v] 39 (0, 0)) ∧ Own W B v L ∧ g < B ∧ B ≤ W.heap.size
def encW (s : ByteArray) : List UInt8 := encB (strBytes s)
theorem encB_lenW (m : List UInt8) : (encB m).length ≤ 65539 := by
  unfold encB
  simp [be_length]
  omega
set_option maxHeartbeats 4000000 in
theorem wrn_any {w : World} {B g : Nat} {L : List UInt8} (h : WrA w B g L) (n : Nat) (hn : n < 18446744073709551616) (hl : L.length ≤ 100000000) :
    Calls Try.prog 11 #[.pointer (some ⟨g, 0, none⟩), .int .u64 (n : Int)] w fun e w' => e = .returned (.tuple #[]) ∧ WrA w' B g (L ++ be n 8) ∧ Below g w w' := by
  obtain ⟨i0, hi, hz, hsz, hby⟩ := info_parts Try.infoByte
  obtain ⟨v, hb, ho, hgB, hBw⟩ := h
  have HO := Lib.hid ho
  obtain ⟨A, c, rfl⟩ := ho.form
  have hob : ∀ k, (Value.slice A L.length c).ownBlock = some k → g < k := fun k e => by have := (ho.lt _ e).1; omega
  have HOB := Lib.hid hob
  have HB := Lib.hid hb
  have hfl := blk_lt hb
  have hm : (be n 8).length ≤ 65600 := by simp [be_length]
  have HC : Hid (∀ Z : World, Below w.heap.size w Z → Calls Try.prog 28 #[.slice none 0 0, .int .u64 (n : Int)] Z fun e w' => ∃ v', e = .returned v' ∧ Own w' Z.heap.size v' (be n 8) ∧ Below Z.heap.size Z w') := Lib.hid fun Z hz => by
    have := N_any (.slice none 0 0) [] n Z (Rd.nil _ _) hn (by simp)
    rwa [List.nil_append] at this
  generalize be n 8 = M at *
  obtain ⟨n0, hn0⟩ : ∃ n0, n0 = L.length := ⟨_, rfl⟩
  rw [← hn0] at HO HB HOB
  have HL := Lib.hid hn0
  have x0 : w.cell? ⟨g, 0, none⟩ = some (.slice A n0 c) := blk_cell HB.out 0
  clear ho hob hb hn0
  go_enter Try.func11, Try.ntmps11
  go_wp2_with fail
  have hd0 : Below w.heap.size w w.drew := Below.drew (Below.refl _ _)
  have xd : w.drew.cell? ⟨g, 0, none⟩ = some (.slice A n0 c) := x0
  go_region_law (first
    | (go_simp; (with_reducible refine (HC.out _ hd0).mono ?_); rintro e w1 ⟨v1, rfl, ho1, hb1⟩; dsimp only; have hb01 : Below w.heap.size w w1 := below_chain hd0 (Nat.le_refl _) hb1; have hg1 := (hb01.block _ hfl).trans HB.out; have x1 : w1.cell? ⟨g, 0, none⟩ = some (.slice A n0 c) := blk_cell hg1 0; have hO1 : Own w1 B (.slice A n0 c) L := HO.out.below hb01; have hs1 := hb01.size)
    | (refine wp_append_rd (v := .slice A n0 c) (.tmp 8) (.tmp 10) _ rfl i0 Try.underlying26 hi hz hsz hby rfl hO1 rfl ho1.rd (by omega) (Nat.le_trans hBw hs1) ?_; intro v2 w2 ho2 hg2 hat2; have hgB2 : w2.heap[g]? = some (.cells #[.slice A n0 c] 39 (0, 0)) := (hg2.block _ (Nat.lt_of_lt_of_le hfl hs1) (fun e => by have := HOB.out _ e.symm; omega)).trans hg1; have x2 := blk_cell hgB2 0; have f2 := blk_free hgB2 0; obtain ⟨A2, c2, hv2⟩ := ho2.form; subst hv2)
    | fail)
  all_goals
    have hz2 : Below g w w2 := (hb01.mono (by omega)).grown hg2 (by omega) (fun k hk => Nat.le_of_lt (HOB.out k hk))
    have hset := blk_set hgB2 0 (.slice A2 (L.length + M.length) c2)
    have hown : Own (w2.setCell ⟨g, 0, none⟩ (.slice A2 (L.length + M.length) c2)) B (.slice A2 (L.length + M.length) c2) (L ++ M) := by
      have h9 := ho2.grown (grown_setR w2 g 0 (.slice A2 (L.length + M.length) c2)) (Or.inr (fun e => by have := (ho2.lt _ e).1; omega))
      rw [List.length_append] at h9
      exact h9
    have HF := Lib.hid (And.intro hset (And.intro hown (And.intro (hz2.setCell (p := ⟨g, 0, none⟩) (Nat.le_refl _) (.slice A2 (L.length + M.length) c2)) (Nat.le_trans (Nat.le_trans hBw hs1) hg2.size))))
    clear hset hown hz2 ho2 hO1 ho1 hgB2 hg1
    go_wp2_with fail
    go_end0
    exact ⟨rfl, ⟨_, by simpa using HF.out.1, HF.out.2.1, hgB, by simpa using HF.out.2.2.2⟩, HF.out.2.2.1⟩
set_option maxHeartbeats 4000000 in
theorem wrt_any {w : World} {B g : Nat} {L : List UInt8} (h : WrA w B g L) (s : ByteArray) (hs : s.size ≤ maxLen) (hl : L.length ≤ 100000000) :
    Calls Try.prog 10 #[.pointer (some ⟨g, 0, none⟩), .string s] w fun e w' => e = .returned (.tuple #[]) ∧ WrA w' B g (L ++ encW s) ∧ Below g w w' := by
  obtain ⟨i0, hi, hz, hsz, hby⟩ := info_parts Try.infoByte
  obtain ⟨v, hb, ho, hgB, hBw⟩ := h
  have HO := Lib.hid ho
  obtain ⟨A, c, rfl⟩ := ho.form
  have hob : ∀ k, (Value.slice A L.length c).ownBlock = some k → g < k := fun k e => by have := (ho.lt _ e).1; omega
  have HOB := Lib.hid hob
  have HB := Lib.hid hb
  have hfl := blk_lt hb
  have hm : (encW s).length ≤ 65600 := Nat.le_trans (encB_lenW _) (by decide)
  have HC : Hid (∀ Z : World, Below w.heap.size w Z → Calls Try.prog 27 #[.slice none 0 0, .string s] Z fun e w' => ∃ v', e = .returned v' ∧ Own w' Z.heap.size v' (encW s) ∧ Below Z.heap.size Z w') := Lib.hid fun Z hz => by
    exact (T_any (.slice none 0 0) s [] Z (Rd.nil _ _) hs (by simp)).mono fun e w' ⟨v', h1, h2, h3⟩ => ⟨v', h1, by rw [List.nil_append] at h2; exact h2, h3⟩
  generalize encW s = M at *
  obtain ⟨n0, hn0⟩ : ∃ n0, n0 = L.length := ⟨_, rfl⟩
  rw [← hn0] at HO HB HOB
  have HL := Lib.hid hn0
  have x0 : w.cell? ⟨g, 0, none⟩ = some (.slice A n0 c) := blk_cell HB.out 0
  clear ho hob hb hn0
  go_enter Try.func10, Try.ntmps10
  go_wp2_with fail
  have hd0 : Below w.heap.size w w.drew := Below.drew (Below.refl _ _)
  have xd : w.drew.cell? ⟨g, 0, none⟩ = some (.slice A n0 c) := x0
  go_region_law (first
    | (go_simp; (with_reducible refine (HC.out _ hd0).mono ?_); rintro e w1 ⟨v1, rfl, ho1, hb1⟩; dsimp only; have hb01 : Below w.heap.size w w1 := below_chain hd0 (Nat.le_refl _) hb1; have hg1 := (hb01.block _ hfl).trans HB.out; have x1 : w1.cell? ⟨g, 0, none⟩ = some (.slice A n0 c) := blk_cell hg1 0; have hO1 : Own w1 B (.slice A n0 c) L := HO.out.below hb01; have hs1 := hb01.size)
    | (refine wp_append_rd (v := .slice A n0 c) (.tmp 8) (.tmp 10) _ rfl i0 Try.underlying26 hi hz hsz hby rfl hO1 rfl ho1.rd (by omega) (Nat.le_trans hBw hs1) ?_; intro v2 w2 ho2 hg2 hat2; have hgB2 : w2.heap[g]? = some (.cells #[.slice A n0 c] 39 (0, 0)) := (hg2.block _ (Nat.lt_of_lt_of_le hfl hs1) (fun e => by have := HOB.out _ e.symm; omega)).trans hg1; have x2 := blk_cell hgB2 0; have f2 := blk_free hgB2 0; obtain ⟨A2, c2, hv2⟩ := ho2.form; subst hv2)
    | fail)
  all_goals
    have hz2 : Below g w w2 := (hb01.mono (by omega)).grown hg2 (by omega) (fun k hk => Nat.le_of_lt (HOB.out k hk))
    have hset := blk_set hgB2 0 (.slice A2 (L.length + M.length) c2)
    have hown : Own (w2.setCell ⟨g, 0, none⟩ (.slice A2 (L.length + M.length) c2)) B (.slice A2 (L.length + M.length) c2) (L ++ M) := by
      have h9 := ho2.grown (grown_setR w2 g 0 (.slice A2 (L.length + M.length) c2)) (Or.inr (fun e => by have := (ho2.lt _ e).1; omega))
      rw [List.length_append] at h9
      exact h9
    have HF := Lib.hid (And.intro hset (And.intro hown (And.intro (hz2.setCell (p := ⟨g, 0, none⟩) (Nat.le_refl _) (.slice A2 (L.length + M.length) c2)) (Nat.le_trans (Nat.le_trans hBw hs1) hg2.size))))
    clear hset hown hz2 ho2 hO1 ho1 hgB2 hg1
    go_wp2_with fail
    go_end0
    exact ⟨rfl, ⟨_, by simpa using HF.out.1, HF.out.2.1, hgB, by simpa using HF.out.2.2.2⟩, HF.out.2.2.1⟩
set_option maxHeartbeats 4000000 in
theorem wrb_any {w : World} {B g : Nat} {L : List UInt8} (h : WrA w B g L) (Ax : Option Addr) (nx cx : Nat) (m : List UInt8) (hr : Rd w w.heap.size (.slice Ax nx cx) m) (hl : L.length ≤ 100000000) :
    Calls Try.prog 14 #[.pointer (some ⟨g, 0, none⟩), .slice Ax nx cx] w fun e w' => e = .returned (.tuple #[]) ∧ WrA w' B g (L ++ encB m) ∧ Below g w w' := by
  obtain ⟨i0, hi, hz, hsz, hby⟩ := info_parts Try.infoByte
  obtain ⟨v, hb, ho, hgB, hBw⟩ := h
  have HO := Lib.hid ho
  obtain ⟨A, c, rfl⟩ := ho.form
  have hob : ∀ k, (Value.slice A L.length c).ownBlock = some k → g < k := fun k e => by have := (ho.lt _ e).1; omega
  have HOB := Lib.hid hob
  have HB := Lib.hid hb
  have hfl := blk_lt hb
  have hm : (encB m).length ≤ 65600 := Nat.le_trans (encB_lenW _) (by decide)
  have HC : Hid (∀ Z : World, Below w.heap.size w Z → Calls Try.prog 36 #[.slice none 0 0, .slice Ax nx cx] Z fun e w' => ∃ v', e = .returned v' ∧ Own w' Z.heap.size v' (encB m) ∧ Below Z.heap.size Z w') := Lib.hid fun Z hz => by
    exact (B_any (.slice none 0 0) (.slice Ax nx cx) [] m Z (Rd.nil _ _) (hr.up (Nat.le_refl _) hz) (by simp)).mono fun e w' ⟨v', h1, h2, h3⟩ => ⟨v', h1, by rw [List.nil_append] at h2; exact h2, h3⟩
  generalize encB m = M at *
  obtain ⟨n0, hn0⟩ : ∃ n0, n0 = L.length := ⟨_, rfl⟩
  rw [← hn0] at HO HB HOB
  have HL := Lib.hid hn0
  have x0 : w.cell? ⟨g, 0, none⟩ = some (.slice A n0 c) := blk_cell HB.out 0
  clear ho hob hb hn0
  go_enter Try.func14, Try.ntmps14
  go_wp2_with fail
  have hd0 : Below w.heap.size w w.drew := Below.drew (Below.refl _ _)
  have xd : w.drew.cell? ⟨g, 0, none⟩ = some (.slice A n0 c) := x0
  go_region_law (first
    | (go_simp; (with_reducible refine (HC.out _ hd0).mono ?_); rintro e w1 ⟨v1, rfl, ho1, hb1⟩; dsimp only; have hb01 : Below w.heap.size w w1 := below_chain hd0 (Nat.le_refl _) hb1; have hg1 := (hb01.block _ hfl).trans HB.out; have x1 : w1.cell? ⟨g, 0, none⟩ = some (.slice A n0 c) := blk_cell hg1 0; have hO1 : Own w1 B (.slice A n0 c) L := HO.out.below hb01; have hs1 := hb01.size)
    | (refine wp_append_rd (v := .slice A n0 c) (.tmp 8) (.tmp 10) _ rfl i0 Try.underlying26 hi hz hsz hby rfl hO1 rfl ho1.rd (by omega) (Nat.le_trans hBw hs1) ?_; intro v2 w2 ho2 hg2 hat2; have hgB2 : w2.heap[g]? = some (.cells #[.slice A n0 c] 39 (0, 0)) := (hg2.block _ (Nat.lt_of_lt_of_le hfl hs1) (fun e => by have := HOB.out _ e.symm; omega)).trans hg1; have x2 := blk_cell hgB2 0; have f2 := blk_free hgB2 0; obtain ⟨A2, c2, hv2⟩ := ho2.form; subst hv2)
    | fail)
  all_goals
    have hz2 : Below g w w2 := (hb01.mono (by omega)).grown hg2 (by omega) (fun k hk => Nat.le_of_lt (HOB.out k hk))
    have hset := blk_set hgB2 0 (.slice A2 (L.length + M.length) c2)
    have hown : Own (w2.setCell ⟨g, 0, none⟩ (.slice A2 (L.length + M.length) c2)) B (.slice A2 (L.length + M.length) c2) (L ++ M) := by
      have h9 := ho2.grown (grown_setR w2 g 0 (.slice A2 (L.length + M.length) c2)) (Or.inr (fun e => by have := (ho2.lt _ e).1; omega))
      rw [List.length_append] at h9
      exact h9
    have HF := Lib.hid (And.intro hset (And.intro hown (And.intro (hz2.setCell (p := ⟨g, 0, none⟩) (Nat.le_refl _) (.slice A2 (L.length + M.length) c2)) (Nat.le_trans (Nat.le_trans hBw hs1) hg2.size))))
    clear hset hown hz2 ho2 hO1 ho1 hgB2 hg1
    go_wp2_with fail
    go_end0
    exact ⟨rfl, ⟨_, by simpa using HF.out.1, HF.out.2.1, hgB, by simpa using HF.out.2.2.2⟩, HF.out.2.2.1⟩
theorem WrA.up {w w' : World} {B g : Nat} {L : List UInt8} (h : WrA w B g L) (hb : Below w.heap.size w w') : WrA w' B g L := by
  obtain ⟨v, h1, h2, h3, h4⟩ := h
  exact ⟨v, (hb.block _ (blk_lt h1)).trans h1, h2.below hb, h3, Nat.le_trans h4 hb.size⟩
set_option maxHeartbeats 4000000 in
theorem wru_any {w : World} {B g : Nat} {L : List UInt8} (h : WrA w B g L) (x : U4) (hx : x.ok) (hl : L.length ≤ 100000000) (hgw : g ≤ w.heap.size) :
    Calls Try.prog 12 #[.pointer (some ⟨g, 0, none⟩), x.val] w fun e w' => e = .returned (.tuple #[]) ∧ WrA w' B g (L ++ encB (be x.nat 32)) ∧ Below g w w' := by
  have hbox := heap_alloc_new w (.cells #[.int .u64 (x.a : Int), .int .u64 (x.b : Int), .int .u64 (x.c : Int), .int .u64 (x.d : Int)] 31)
  have ha0 : Below w.heap.size w (w.alloc (.cells #[.int .u64 (x.a : Int), .int .u64 (x.b : Int), .int .u64 (x.c : Int), .int .u64 (x.d : Int)] 31)) := (Below.refl _ _).alloc (Nat.le_refl _) _
  have HB := Lib.hid (fun Z : World => bytes_any x Z hx)
  have h0 := h.up ha0
  generalize hW0 : w.alloc (.cells #[.int .u64 (x.a : Int), .int .u64 (x.b : Int), .int .u64 (x.c : Int), .int .u64 (x.d : Int)] 31) = W0 at *
  have c0 := blk_cell hbox 0
  have c1 := blk_cell hbox 1
  have c2 := blk_cell hbox 2
  have c3 := blk_cell hbox 3
  unfold U4.val U4.cells at *
  generalize be x.nat 32 = M at *
  clear h hx hbox
  go_enter Try.func12, Try.ntmps12
  go_wp2_with fail
  try rw [hW0]
  clear hW0
  refine (HB.out _).mono ?_
  rintro e w1 ⟨v1, rfl, ho1, hb1⟩
  have h1 := h0.up hb1
  have hr1 := ho1.rd
  obtain ⟨A1, k1, rfl⟩ := ho1.form
  have HW := Lib.hid (wrb_any h1 A1 M.length k1 M hr1 hl)
  have hq := (below_chain ha0 ha0.size hb1)
  clear HB h0 c0 c1 c2 c3 ho1 hr1
  generalize M.length = n1 at *
  go_wp2_with fail
  refine HW.out.mono ?_
  rintro e w2 ⟨rfl, h2, hb2⟩
  have hf := (hq.mono hgw).trans hb2
  go_wp2_with fail
  go_end0
  exact ⟨rfl, h2, hf⟩
end Go.Proofs.Ytlkkjnacolmmpaa
