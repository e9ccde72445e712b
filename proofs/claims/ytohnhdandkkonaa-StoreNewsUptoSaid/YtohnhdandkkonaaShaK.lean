
/- The walk of package sha: 64 bytes more. -/
import Derived.Test.YtohnhdandkkonaaShaS
import Derived.Test.YtohnhdandkkonaaShaQ
import Derived.Deep.QuietTactic
import Derived.BigQuiet
namespace Go.Proofs.Ytohnhdandkkonaa
open Go.RowKit

theorem w_not (x : UInt32) : bits BinOp.xor IntKind.u32 IntKind.u32.max (x.toNat : Int) = ((~~~ x).toNat : Int) := by
  have hx := x.toNat_lt
  have := xor32 4294967295 x.toNat (by omega) (by omega)
  rw [show IntKind.u32.max = ((4294967295 : Nat) : Int) by rfl, this]
  have h2 : (4294967295 : UInt32) ^^^ x = ~~~ x := by
    refine UInt32.toBitVec_inj.1 ?_
    rw [UInt32.toBitVec_xor, UInt32.toBitVec_not, show (4294967295 : UInt32).toBitVec = BitVec.allOnes 32 by decide]
    exact BitVec.allOnes_xor
  rw [← h2, UInt32.toNat_xor]
  rfl

theorem w_sum (x y : UInt32) : ((x.toNat : Int) + (y.toNat : Int)) % 4294967296 = ((x + y).toNat : Int) := by rw [UInt32.toNat_add]; omega

theorem list_one (s : S8) : ∀ v ∈ s.list, v.oneCell' = true := by
  intro v hv
  simp only [S8.list, List.mem_cons, List.not_mem_nil, or_false] at hv
  rcases hv with rfl | rfl | rfl | rfl | rfl | rfl | rfl | rfl <;> rfl

theorem _root_.Go.wp_build_to {P : Program} {o : Oper} {a : Act} {w : World} {K : Act → World → Prop} {Q : Exit → Act → World → Prop} (t : TypeId) (parts : Array (Nat × Operand)) (cells : Array Value) (ho : o.op = .build t parts)
    (hf : P.built t (parts.map fun (i, x) => (i, a.eval x)).toList = some cells)
    (h : K (a.put o.dst (.agg cells)) w) : o.wp P a w K Q := by
  unfold Oper.wp execOp
  simp only [ho, Sem.run_bind, run_build w t _ cells hf, Result.andThen_ok]
  exact h

theorem info35 : (Try.prog.info? 74).map (fun i => i.size) = some 1 := by kernel_rfl
theorem sw_cells (l : List UInt8) (j : Nat) (h : j < 64) : (arr64 (sw l 64))[j]? = some (.int .u32 (((sw l 64).getD j 0).toNat : Int)) := arr64_get _ _ (by rw [sw_length]; omega)

end Go.Proofs.Ytohnhdandkkonaa
