
/- A script of operations, as it lies in memory. -/
import Derived.Test.YtpcoonnfaoakhaaInfo1
namespace Go.Proofs.Ytpcoonnfaoakhaa
set_option maxRecDepth 100000
open Go.RowKit

/-- one operation of a script -/
structure OpD where
  kind : Int
  most : Int
  num : Int
  bytes : List UInt8
  yes : Bool
  k0 : -9223372036854775808 ≤ kind
  k1 : kind ≤ 9223372036854775807
  m0 : -9223372036854775808 ≤ most
  m1 : most ≤ 9223372036854775807
  n0 : 0 ≤ num
  n1 : num < 18446744073709551616

/-- an operation's cells from offset o of block b on -/
def OpAt (w : World) (B b o : Nat) (x : OpD) : Prop :=
  ∃ xv, w.cell? ⟨b, o, none⟩ = some (.int .i64 x.kind) ∧ w.cell? ⟨b, o + 1, none⟩ = some (.int .i64 x.most) ∧ w.cell? ⟨b, o + 2, none⟩ = some (.int .u64 x.num) ∧ w.cell? ⟨b, o + 3, none⟩ = some xv ∧
    w.cell? ⟨b, o + 4, none⟩ = some (.bool x.yes) ∧ Rd w B xv x.bytes

def OpsAt (w : World) (B : Nat) (v : Value) (ops : List OpD) : Prop :=
  ∃ A c, v = .slice A ops.length c ∧ ops.length ≤ c ∧ c ≤ maxLen ∧
    (0 < ops.length → ∃ b o, A = some ⟨b, o, none⟩ ∧ b < B ∧ ∀ j (h : j < ops.length), OpAt w B b (o + j * 5) ops[j])

theorem OpAt.below {w w' : World} {B b o : Nat} {x : OpD} (h : OpAt w B b o x) (hb : b < B) (hk : Below B w w') : OpAt w' B b o x := by
  obtain ⟨xv, h0, h1, h2, h3, h4, hr⟩ := h
  exact ⟨xv, (hk.cell (p := ⟨b, o, none⟩) hb).trans h0, (hk.cell (p := ⟨b, o + 1, none⟩) hb).trans h1, (hk.cell (p := ⟨b, o + 2, none⟩) hb).trans h2, (hk.cell (p := ⟨b, o + 3, none⟩) hb).trans h3, (hk.cell (p := ⟨b, o + 4, none⟩) hb).trans h4, hr.below hk⟩
theorem OpsAt.below {w w' : World} {B : Nat} {v : Value} {ops : List OpD} (h : OpsAt w B v ops) (hk : Below B w w') : OpsAt w' B v ops := by
  obtain ⟨A, c, hv, hc, hm, hp⟩ := h
  refine ⟨A, c, hv, hc, hm, fun h0 => ?_⟩
  obtain ⟨b, o, hA, hb, ha⟩ := hp h0
  exact ⟨b, o, hA, hb, fun j hj => (ha j hj).below hb hk⟩
/-- how much a script holds -/
def opsSize (ops : List OpD) : Nat := (ops.map fun x => x.bytes.length + 1).sum
end Go.Proofs.Ytpcoonnfaoakhaa
