
/- '[]byte{..}' turned to '[]byte': its row is marked. -/
import Derived.Test.YtohnhdandkkonaaDoorInfo
namespace Go.Proofs.YtohnhdandkkonaaDoor
set_option maxRecDepth 100000
open Go.RowKit
variable {P : Program} {w : World}

theorem cell_alloc_fr (w : World) (C : Array Value) (t : TypeId) (fr : Nat × Nat) (p : Addr) : (w.alloc (.cells C t fr)).cell? p = (w.alloc (.cells C t)).cell? p := by
  unfold World.cell?
  show (match (w.heap.push _)[p.block]? with | some (.cells c _ _) => _ | _ => none) = (match (w.heap.push _)[p.block]? with | some (.cells c _ _) => _ | _ => none)
  rcases Nat.lt_trichotomy p.block w.heap.size with h | h | h
  · rw [Array.getElem?_push_lt h, Array.getElem?_push_lt h]
  · rw [h, Array.getElem?_push_size, Array.getElem?_push_size]
  · rw [Array.getElem?_eq_none (by simp; omega), Array.getElem?_eq_none (by simp; omega)]

theorem rd_lit_fr (w : World) (cs : Array Value) (l : List UInt8) (n : Nat) (fr : Nat × Nat) (hn : n = l.length) (h : cs = (bcells l).toArray) (hm : n ≤ maxLen) : Rd (w.alloc (.cells cs 5 fr)) (w.heap.size + 1) (.slice (some ⟨w.heap.size, 0, none⟩) n n) l :=
  (rd_lit w cs l n hn h hm).keep fun p _ => cell_alloc_fr w cs _ fr p

theorem run_convert_made (t : TypeId) (C : Array Value) (n c : Nat) (hs : P.underlying t = some (.slice 5)) (he : P.underlying 5 = some (.int .u8)) :
    (convert t t (.slice (some ⟨w.heap.size, 0, none⟩) n c)).run P (w.alloc (.cells C 5)) = .ok (.slice (some ⟨w.heap.size, 0, none⟩) n c) (w.alloc (.cells C 5 (C.size, C.size + 1))) := by
  have hsh : (w.alloc (.cells C 5)).shape? w.heap.size = some (5, C.size) := by
    unfold World.shape?
    rw [heap_alloc_new]
  have hfr : (w.alloc (.cells C 5)).freeze ⟨w.heap.size, C.size, none⟩ 1 = w.alloc (.cells C 5 (C.size, C.size + 1)) := by
    have hm : ∀ (a : Array Obj) (x : Obj) (f : Obj → Obj), (a.push x).modify a.size f = a.push (f x) := by
      intro a x f
      apply Array.ext
      · simp
      · intro i h1 h2
        rw [Array.getElem_modify, Array.getElem_push, Array.getElem_push]
        split
        · next h => subst h; simp
        · next h =>
          have hi : i < a.size := by simp at h1; omega
          simp [hi]
    unfold World.freeze
    rw [if_neg (by decide)]
    show ({ w.alloc (.cells C 5) with heap := (w.heap.push (.cells C 5)).modify w.heap.size _ } : World) = _
    rw [hm]
    rfl
  simp [convert, run_underlying hs, run_underlying he, markStringish, hsh]
  exact hfr
end Go.Proofs.YtohnhdandkkonaaDoor
