
/- The walk of the document's turn of a word. The walk of the document's filled-up message. The walk of the document's block: 64 bytes more. The walk of the document's sum. The walk of the document's sum of a word and parts. -/
import Derived.Test.YtmphegeiclgjbaaGreatDoorShaS0
import Derived.Test.YtmphegeiclgjbaaGreatDoorShaM0
import Derived.LoopTactic
import Derived.Test.YtmphegeiclgjbaaGreatDoorWireDoc0
namespace Go.Proofs.YtmphegeiclgjbaaGreatDoor
set_option maxRecDepth 100000
open Go.RowKit

end Go.Proofs.YtmphegeiclgjbaaGreatDoor
namespace Go.Proofs.YtmphegeiclgjbaaGreatDoor
set_option maxRecDepth 100000
open Go.RowKit

theorem set_tail {α : Type} (A B : List α) (k : Nat) (x : α) : (A ++ B).set (A.length + k) x = A ++ B.set k x := by
  rw [List.set_append_right _ _ (by omega)]
  simp
def padS (M : List UInt8) (F b : Nat) : Nat → List UInt8
  | 0 => M
  | i + 1 => (padS M F b i).set (F - 1 - i) (UInt8.ofNat (b / 2 ^ (8 * i)))
theorem padS_length (M : List UInt8) (F b i : Nat) : (padS M F b i).length = M.length := by
  induction i with
  | zero => rfl
  | succ i ih => simp [padS, ih]
theorem padS_8 (M : List UInt8) (F b : Nat) (hM : M.length = F) (h8 : 8 ≤ F) : padS M F b 8 = over M (F - 8) (be b 8) := by
  obtain ⟨A, hA⟩ : ∃ A, A = M.take (F - 8) := ⟨_, rfl⟩
  obtain ⟨B, hB⟩ : ∃ B, B = M.drop (F - 8) := ⟨_, rfl⟩
  have hAl : A.length = F - 8 := by rw [hA, List.length_take]; omega
  have hBl : B.length = 8 := by rw [hB, List.length_drop]; omega
  have hMab : M = A ++ B := by rw [hA, hB, List.take_append_drop]
  have hover : over M (F - 8) (be b 8) = A ++ be b 8 := by
    unfold over
    rw [be_length, List.drop_of_length_le (by omega), List.append_nil, ← hA]
  rw [hover, hMab]
  match B, hBl with
  | [x0, x1, x2, x3, x4, x5, x6, x7], _ =>
    simp only [padS]
    rw [show F - 1 - 0 = A.length + 7 by omega, show F - 1 - 1 = A.length + 6 by omega, show F - 1 - 2 = A.length + 5 by omega, show F - 1 - 3 = A.length + 4 by omega,
      show F - 1 - 4 = A.length + 3 by omega, show F - 1 - 5 = A.length + 2 by omega, show F - 1 - 6 = A.length + 1 by omega, show F - 1 - 7 = A.length + 0 by omega]
    rw [set_tail, set_tail, set_tail, set_tail, set_tail, set_tail, set_tail, set_tail]
    rfl

end Go.Proofs.YtmphegeiclgjbaaGreatDoor
namespace Go.Proofs.YtmphegeiclgjbaaGreatDoor
set_option maxRecDepth 100000
open Go.RowKit

theorem rinfo8 : (Tryz.prog.info? 184).map (fun i => i.zero) = some (some (.agg #[.int .u32 0, .int .u32 0, .int .u32 0, .int .u32 0, .int .u32 0, .int .u32 0, .int .u32 0, .int .u32 0])) := by kernel_rfl
theorem rund8 : Tryz.prog.underlying 184 = some (.array 8 183) := by kernel_rfl
theorem rbuild8 (x0 x1 x2 x3 x4 x5 x6 x7 : Int) : Tryz.prog.built 184 [(0, .int .u32 x0), (1, .int .u32 x1), (2, .int .u32 x2), (3, .int .u32 x3), (4, .int .u32 x4), (5, .int .u32 x5), (6, .int .u32 x6), (7, .int .u32 x7)] = some #[.int .u32 x0, .int .u32 x1, .int .u32 x2, .int .u32 x3, .int .u32 x4, .int .u32 x5, .int .u32 x6, .int .u32 x7] := by
  have h37 := rinfo8
  have h35 := info35
  cases e37 : Tryz.prog.info? 184 with
  | none => rw [e37] at h37; cases h37
  | some i =>
    cases e35 : Tryz.prog.info? 183 with
    | none => rw [e35] at h35; cases h35
    | some j =>
      rw [e37] at h37
      rw [e35] at h35
      simp only [Option.map_some, Option.some.injEq] at h37 h35
      simp only [Program.built, e37, rund8, e35, h37, h35]
      simp [Instr.fill, Value.cells]

end Go.Proofs.YtmphegeiclgjbaaGreatDoor
namespace Go.Proofs.YtmphegeiclgjbaaGreatDoor
set_option maxRecDepth 100000
open Go.RowKit

/-! ### the whole message filled up is its whole blocks and the rest filled up -/
theorem pad_is (l : List UInt8) (size : Nat) : pad l size = l ++ (128 :: (List.replicate (fullOf l.length - 9 - l.length) 0 ++ be (8 * size % 18446744073709551616) 8)) := by
  have hf := fullOf_le l.length
  unfold pad
  generalize 8 * size % 18446744073709551616 = b
  generalize fullOf l.length = F at *
  have h1 : over (List.replicate F 0) 0 l = l ++ List.replicate (F - l.length) 0 := by
    unfold over
    rw [List.take_zero, List.nil_append, Nat.zero_add, List.drop_replicate]
  rw [h1]
  obtain ⟨k, hk⟩ : ∃ k, F - l.length = k + 1 + 8 := ⟨F - l.length - 9, by omega⟩
  rw [hk, List.set_append_right _ _ (Nat.le_refl _), Nat.sub_self, show k + 1 + 8 = (k + 8) + 1 by omega, List.replicate_succ, List.set_cons_zero]
  unfold over
  have h2 : (l ++ 128 :: List.replicate (k + 8) (0 : UInt8)) = (l ++ 128 :: List.replicate k 0) ++ List.replicate 8 0 := by
    rw [List.append_assoc, List.cons_append, List.replicate_append_replicate]
  have h3 : (l ++ 128 :: List.replicate k (0 : UInt8)).length = F - 8 := by simp; omega
  rw [h2, List.take_left' h3, be_length, List.drop_of_length_le (by rw [List.length_append, h3]; simp), List.append_nil, show F - 9 - l.length = k by omega]
  simp
theorem pad_parts (a b : List UInt8) (n size : Nat) (ha : a.length = 64 * n) : pad (a ++ b) size = a ++ pad b size := by
  rw [pad_is, pad_is, List.append_assoc]
  have : fullOf (a ++ b).length - 9 - (a ++ b).length = fullOf b.length - 9 - b.length := by
    unfold fullOf
    rw [List.length_append]
    omega
  rw [this]
theorem eat_cong {s : S8} {l m : List UInt8} {n : Nat} (h : ∀ i, i < n → (l.drop (64 * i)).take 64 = (m.drop (64 * i)).take 64) : eat s l n = eat s m n := by
  induction n with
  | zero => rfl
  | succ n ih => simp only [eat]; rw [ih fun i hi => h i (by omega), h n (by omega)]
theorem eat_more (s : S8) (a m : List UInt8) (n k : Nat) (ha : a.length = 64 * n) : eat s (a ++ m) (n + k) = eat (eat s (a ++ m) n) m k := by
  induction k with
  | zero => rfl
  | succ k ih =>
    rw [← Nat.add_assoc]
    simp only [eat]
    rw [ih, show 64 * (n + k) = a.length + 64 * k by omega, List.drop_append]
    rw [List.drop_of_length_le (by omega), List.nil_append, show a.length + 64 * k - a.length = 64 * k by omega]
theorem shaSum_pad (l : List UInt8) : shaSum l = (eat s0 (pad l l.length) ((pad l l.length).length / 64)).bytes := by
  unfold shaSum
  obtain ⟨n, hn⟩ : ∃ n, n = l.length / 64 := ⟨_, rfl⟩
  obtain ⟨a, ha⟩ : ∃ a, a = l.take (64 * n) := ⟨_, rfl⟩
  obtain ⟨b, hb⟩ : ∃ b, b = l.drop (64 * n) := ⟨_, rfl⟩
  have hal : a.length = 64 * n := by rw [ha, List.length_take]; omega
  have hl : l = a ++ b := by rw [ha, hb, List.take_append_drop]
  have hp : pad l l.length = a ++ shaEnd l := by
    unfold shaEnd
    rw [← hn, ← hb]
    conv => lhs; arg 1; rw [hl]
    exact pad_parts a b n _ hal
  rw [hp, ← hn]
  generalize shaEnd l = M
  rw [List.length_append, show (a.length + M.length) / 64 = n + M.length / 64 by omega, eat_more _ _ _ _ _ hal]
  congr 2
  refine eat_cong fun i hi => ?_
  rw [hl]
  have h1 : 64 * i + 64 ≤ a.length := by omega
  rw [List.drop_append_of_le_length (by omega), List.drop_append_of_le_length (by omega), List.take_append_of_le_length (by rw [List.length_drop]; omega), List.take_append_of_le_length (by rw [List.length_drop]; omega)]

/-- block g holds the state s -/
def RBlk (w : World) (g : Nat) (s : S8) : Prop := w.heap[g]? = some (.cells s.list.toArray 184 (0, 0))

theorem wpList_store_r8 {w : World} {ops : Array Oper} {rest : List Oper} {o : Oper} {a : Act} {Q : Exit → Act → World → Prop} (hgd : o.guard = none) (x y : Operand) (ho : o.op = .store 184 x y)
    (g : Nat) (s : S8) (hx : a.eval x = .pointer (some ⟨g, 0, none⟩)) (hy : a.eval y = .agg s.list.toArray) (C : Array Value) (hg : w.heap[g]? = some (.cells C 184 (0, 0))) (hC : C.size = 8)
    (h : ∀ w', RBlk w' g s → (∀ B, B ≤ g → Below B w w') → w'.heap.size = w.heap.size → (∀ k, k ≠ g → w'.heap[k]? = w.heap[k]?) → wpList Tryz.prog ops Q rest (a.put o.dst undef) w') : wpList Tryz.prog ops Q (o :: rest) a w := by
  refine wpList_store_row hgd 184 x y ho g _ hx hy 184 C hg (by kernel_rfl) (by rw [hC]; rfl) (all_oneCell_toArray (list_one _)) ?_
  exact h _ (setRow_heap w g C _ 184 (0, 0) hg) (fun B hB => below_setRow (Below.refl _ _) hB _) (by simp [World.setRow]) (fun k hk => setRow_other w g k _ hk)

theorem RBlk.cells {w : World} {g : Nat} {s : S8} (h : RBlk w g s) : w.rangeAt g 0 s.list := by
  have := World.rangeAt_of_block h 0 8
  rwa [show (s.list.toArray.extract 0 (0 + 8)).toList = s.list by simp [S8.list]] at this
theorem RBlk.below {w w' : World} {g : Nat} {s : S8} (h : RBlk w g s) (hb : Below w.heap.size w w') : RBlk w' g s := (hb.block g (blk_lt h)).trans h

theorem RBlk.at8 {w : World} {g : Nat} {s : S8} (h : RBlk w g s) : w.cell? ⟨g, 0, none⟩ = some (.int .u32 (s.a.toNat : Int)) ∧ w.cell? ⟨g, 1, none⟩ = some (.int .u32 (s.b.toNat : Int)) ∧ w.cell? ⟨g, 2, none⟩ = some (.int .u32 (s.c.toNat : Int)) ∧ w.cell? ⟨g, 3, none⟩ = some (.int .u32 (s.d.toNat : Int)) ∧
    w.cell? ⟨g, 4, none⟩ = some (.int .u32 (s.e.toNat : Int)) ∧ w.cell? ⟨g, 5, none⟩ = some (.int .u32 (s.f.toNat : Int)) ∧ w.cell? ⟨g, 6, none⟩ = some (.int .u32 (s.g.toNat : Int)) ∧ w.cell? ⟨g, 7, none⟩ = some (.int .u32 (s.h.toNat : Int)) :=
  ⟨blk_cell h 0, blk_cell h 1, blk_cell h 2, blk_cell h 3, blk_cell h 4, blk_cell h 5, blk_cell h 6, blk_cell h 7⟩


theorem RBlk.word {w : World} {g : Nat} {s : S8} (h : RBlk w g s) (t : Nat) (ht : t < 8) : w.cell? ⟨g, t, none⟩ = some (.int .u32 ((s.word t).toNat : Int)) := by
  rw [blk_cell h t]
  have : t = 0 ∨ t = 1 ∨ t = 2 ∨ t = 3 ∨ t = 4 ∨ t = 5 ∨ t = 6 ∨ t = 7 := by omega
  rcases this with rfl | rfl | rfl | rfl | rfl | rfl | rfl | rfl <;> rfl

end Go.Proofs.YtmphegeiclgjbaaGreatDoor
namespace Go.Proofs.YtmphegeiclgjbaaGreatDoor
set_option maxRecDepth 100000
open Go.RowKit

end Go.Proofs.YtmphegeiclgjbaaGreatDoor
