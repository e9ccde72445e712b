
/- The walk of package sha: the first state. -/
import Derived.Test.YtohnhdandkkonaaDoorShaK
import Derived.Test.YtohnhdandkkonaaDoorPart
namespace Go.Proofs.YtohnhdandkkonaaDoor
set_option maxRecDepth 100000
open Go.RowKit
def s0 : S8 := ⟨0x6a09e667, 0xbb67ae85, 0x3c6ef372, 0xa54ff53a, 0x510e527f, 0x9b05688c, 0x1f83d9ab, 0x5be0cd19⟩
/-- block g holds the state s -/
def SBlk (w : World) (g : Nat) (s : S8) : Prop := w.heap[g]? = some (.cells s.list.toArray 88 (0, 0))

theorem wpList_store_s8 {w : World} {ops : Array Oper} {rest : List Oper} {o : Oper} {a : Act} {Q : Exit → Act → World → Prop} (hgd : o.guard = none) (x y : Operand) (ho : o.op = .store 88 x y)
    (g : Nat) (s : S8) (hx : a.eval x = .pointer (some ⟨g, 0, none⟩)) (hy : a.eval y = .agg s.list.toArray) (C : Array Value) (hg : w.heap[g]? = some (.cells C 88 (0, 0))) (hC : C.size = 8)
    (h : ∀ w', SBlk w' g s → (∀ B, B ≤ g → Below B w w') → w'.heap.size = w.heap.size → (∀ k, k ≠ g → w'.heap[k]? = w.heap[k]?) → wpList Tryd.prog ops Q rest (a.put o.dst undef) w') : wpList Tryd.prog ops Q (o :: rest) a w := by
  refine wpList_store_row hgd 88 x y ho g _ hx hy 88 C hg (by kernel_rfl) (by rw [hC]; rfl) (all_oneCell_toArray (list_one _)) ?_
  exact h _ (setRow_heap w g C _ 88 (0, 0) hg) (fun B hB => below_setRow (Below.refl _ _) hB _) (by simp [World.setRow]) (fun k hk => setRow_other w g k _ hk)

theorem SBlk.cells {w : World} {g : Nat} {s : S8} (h : SBlk w g s) : w.rangeAt g 0 s.list := by
  have := World.rangeAt_of_block h 0 8
  rwa [show (s.list.toArray.extract 0 (0 + 8)).toList = s.list by simp [S8.list]] at this
theorem SBlk.below {w w' : World} {g : Nat} {s : S8} (h : SBlk w g s) (hb : Below w.heap.size w w') : SBlk w' g s := (hb.block g (blk_lt h)).trans h

set_option maxHeartbeats 1000000 in
theorem begin_any (w : World) : Calls Tryd.prog 59 #[] w fun e w' => e = .returned s0.val ∧ Below w.heap.size w w' := by
  go_enter Tryd.func59, Tryd.ntmps59
  go_wp2_with (
    with_reducible refine at_build 88 ?_
    refine wpList_plain rfl fun K hK => wp_build_to 88 _ s0.list.toArray rfl ?_ (hK _ _ ?_)
    · simp only [List.map_toArray, List.map_cons, List.map_nil]
      exact build8 _ _ _ _ _ _ _ _
    refine wpList_store_s8 rfl (.tmp 0) (.tmp 1) rfl w.heap.size s0 rfl rfl _ (heap_alloc_new w _) rfl ?_
    intro w' hs hb _ _
    have hb2 : Below w.heap.size w w' := ((Below.refl _ _).alloc (Nat.le_refl _) _).trans (hb _ (Nat.le_refl _))
    clear hb
    apply wpList_nil)
  go_wp2_with fail
  refine bodyPost_ret (results_cell_mid rfl _ w' w.heap.size 0 s0.list _ rfl hs.cells rfl rfl rfl) rfl ?_
  exact ⟨rfl, hb2⟩
theorem index8 (s : S8) (t : Nat) (h : t < 8) (w : World) : (Instr.index 88 (.agg #[.int .u32 (s.a.toNat : Int), .int .u32 (s.b.toNat : Int), .int .u32 (s.c.toNat : Int), .int .u32 (s.d.toNat : Int), .int .u32 (s.e.toNat : Int), .int .u32 (s.f.toNat : Int), .int .u32 (s.g.toNat : Int), .int .u32 (s.h.toNat : Int)]) (.int .i64 (t : Int))).run Tryd.prog w = .ok (.int .u32 ((([s.a, s.b, s.c, s.d, s.e, s.f, s.g, s.h] : List UInt32).getD t 0).toNat : Int)) w := by
  have ht : t = 0 ∨ t = 1 ∨ t = 2 ∨ t = 3 ∨ t = 4 ∨ t = 5 ∨ t = 6 ∨ t = 7 := by omega
  rcases ht with rfl | rfl | rfl | rfl | rfl | rfl | rfl | rfl <;> rfl
end Go.Proofs.YtohnhdandkkonaaDoor

