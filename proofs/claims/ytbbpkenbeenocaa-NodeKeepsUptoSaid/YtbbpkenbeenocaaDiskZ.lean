
/- append of so many zeros: 'append(out, make([]byte, n)...)'. -/
import Derived.Test.YtbbpkenbeenocaaInfo
namespace Go.Proofs.Ytbbpkenbeenocaa
set_option maxRecDepth 100000
open Go Go.RowKit
set_option linter.unusedVariables false

variable {P : Program} {w : World} {v : Value} {l : List UInt8} {B : Nat}

theorem zeros_cells (n : Nat) : Builtin.zeroCells (Value.int .u8 0).cells n = ((ByteArray.mk (List.replicate n (0 : UInt8)).toArray).extract 0 n).data.map fun b => Value.int .u8 b.toNat := by
  have h0 : (Value.int .u8 0).cells = #[Value.int .u8 0] := rfl
  rw [h0]
  apply Array.ext
  · simp [Builtin.zeroCells, ByteArray.data_extract]
  · intro i h1 h2
    simp [Builtin.zeroCells, ByteArray.data_extract, Nat.mod_one]

theorem append_zeros_eq (t u s ty : TypeId) (i : TypeInfo) (ht : P.underlying t = some (.slice 5)) (hu : P.underlying u = some (.int .i64)) (hs : P.underlying s = some .string) (hi : P.info? 5 = some i)
    (hz : i.zero = some (.int .u8 0)) (hsize : i.size = 1) (hby : i.bytes = 1) (A : Option Addr) (m c n : Nat) (hmc : m ≤ c) (hn : m + n ≤ 140737488355328) :
    (Builtin.append_ #[t, u] ty #[.slice A m c, .int .i64 (n : Int)]).run P w = (Builtin.append_ #[t, s] ty #[.slice A m c, .string ⟨(List.replicate n (0 : UInt8)).toArray⟩]).run P w := by
  have e1 : IntKind.i64.wrap (n : Int) = (n : Int) := by rw [IntKind.wrap_i64]; omega
  have e2 : ¬ ((n : Int) < 0) := by omega
  have e3 : ¬ (281474976710656 < (n : Int)) := by omega
  have e4 : (List.replicate n (0 : UInt8)).toArray.size = n := by simp
  have e6 : (ByteArray.mk (List.replicate n (0 : UInt8)).toArray).size = n := by simp [ByteArray.size]
  have e11 : (ByteArray.mk (Array.replicate n (0 : UInt8))).size = n := by simp [ByteArray.size]
  have e12 : (ByteArray.mk #[]).size = 0 := rfl
  have e5 : ¬ (9223372036854775807 < (m : Int) + (n : Int)) := by omega
  have e9 : ¬ (9223372036854775807 < (m : Int) + max (n : Int) 0) := by omega
  rcases Nat.eq_zero_or_pos n with h0 | h0
  · subst h0
    have e10 : IntKind.i64.wrap 0 = 0 := rfl
    simp only [Builtin.append_]
    simp [run_underlying ht, run_underlying hu, run_underlying hs, sizeOf, typeInfo, hi, hsize, hby, hz, e10, e12, hmc, Builtin.lenOf, asInt, asIntOf, zeroValue, Builtin.firstCells]
  · have e7 : ¬ ((n : Int) ≤ 0) := by omega
    have e8 : ¬ (n = 0) := by omega
    have hzc := zeros_cells n
    by_cases hr : m + n ≤ c
    · simp only [Builtin.append_]
      simp [run_underlying ht, run_underlying hu, run_underlying hs, sizeOf, typeInfo, hi, hsize, hby, hz, Builtin.lenOf, e1, e2, e3, e5, e6, e11, e7, e8, e9, hr, asInt, asIntOf, zeroValue, Builtin.firstCells, hzc]
    · have hg : ¬ (281474976710656 < Builtin.nextslicecap (m + n) c) := by
        have := growslice_fits (need := m + n) (old := c) (bytes := 1) (by omega) (by omega)
        omega
      simp only [Builtin.append_]
      simp [run_underlying ht, run_underlying hu, run_underlying hs, sizeOf, typeInfo, hi, hsize, hby, hz, Builtin.lenOf, e1, e2, e3, e5, e6, e11, e7, e8, e9, hr, hg, asInt, asIntOf, zeroValue, Builtin.firstCells, hzc]

theorem wpList_append_zeros {ops : Array Oper} {rest : List Oper} {o : Oper} {a : Act} {Q : Exit → Act → World → Prop} (hgd : o.guard = none) (sv sx : Operand) (t u s : TypeId)
    (ho : o.op = .call { callee := .builtin .append, args := #[sv, sx], argTypes := #[t, u] })
    (i : TypeInfo) (ht : P.underlying t = some (.slice 5)) (hu : P.underlying u = some (.int .i64)) (hst : P.underlying s = some .string) (hi : P.info? 5 = some i)
    (hz : i.zero = some (.int .u8 0)) (hsize : i.size = 1) (hby : i.bytes = 1)
    (hs : a.eval sv = v) (hown : Own w B v l) (n : Nat) (hx : a.eval sx = .int .i64 (n : Int))
    (hlen : l.length + n ≤ 140737488355328) (hbase : B ≤ w.heap.size)
    (h : ∀ v' w', Own w' B v' (l ++ List.replicate n 0) → w.grownBy w' v.ownBlock → wpList P ops Q rest (a.put o.dst v') w') : wpList P ops Q (o :: rest) a w := by
  obtain ⟨A, c, rfl⟩ := hown.form
  have hlc : l.length ≤ c := by
    rcases hown.2 with ⟨e, h0⟩ | ⟨g, cap, cur, e, _, _, hn, _⟩
    · omega
    · injection e with _ _ e; omega
  have e6 : (ByteArray.mk (List.replicate n (0 : UInt8)).toArray).size = n := by simp [ByteArray.size]
  obtain ⟨v', w', hrun, h1, h2, _⟩ := Lib.run_append_own_string (P := P) w B t s o.type 5 i ht hst hi hz hsize hby _ l.length (bcells l) hown ⟨(List.replicate n (0 : UInt8)).toArray⟩ (by rw [e6]; simp only [maxLen]; omega) (by rw [e6]; omega) hbase
  have h' := (append_zeros_eq (P := P) (w := w) t u s o.type i ht hu hst hi hz hsize hby A l.length c n hlc (by omega)).trans hrun
  refine wpList_plain hgd fun K hK => ?_
  unfold Oper.wp execOp
  simp only [ho, resolve, invoke, builtin, Sem.run_bind, Sem.run_pure, Result.andThen_ok, List.map_toArray, List.map_cons, List.map_nil, hs, hx, h']
  refine hK _ _ (h v' w' ?_ h2)
  unfold Own
  rw [List.length_append, List.length_replicate, bcells_append]
  rw [e6] at h1
  have e7 : Lib.strCells ⟨(List.replicate n (0 : UInt8)).toArray⟩ = bcells (List.replicate n 0) := by rw [strCells_eq]; rfl
  rw [e7] at h1
  exact h1
end Go.Proofs.Ytbbpkenbeenocaa
