
/- The walks of merkle: what fits, what holds. The walk of merkle's holds. The walks of merkle's Verify and Absent. Leaves of the call's own, of pairs. -/
import Derived.Test.YtcgkonpepmoliaaGreatDoorMerkC0
import Derived.Test.YtcgkonpepmoliaaGreatDoorBase0
import Derived.Test.YtcgkonpepmoliaaGreatDoorInfo0
import Derived.Test.YtcgkonpepmoliaaGreatDoorRowR0
namespace Go.Proofs.YtcgkonpepmoliaaGreatDoor
set_option maxRecDepth 100000
open Go Go.RowKit
set_option linter.unusedVariables false
variable {w w' : World} {B : Nat}

/-- a way handed in -/
def PathV (w : World) (B : Nat) (v : Value) (ps : List (List UInt8)) : Prop :=
  ∃ A c, v = .slice A ps.length c ∧ ps.length ≤ c ∧ c ≤ maxLen ∧ (0 < ps.length → ∃ b o, A = some ⟨b, o, none⟩ ∧ b < B ∧ ∀ j (h : j < ps.length), ∃ x, w.cell? ⟨b, o + j, none⟩ = some x ∧ Rd w B x ps[j])
theorem PathV.below {v : Value} {ps : List (List UInt8)} (h : PathV w B v ps) (hb : Below B w w') : PathV w' B v ps := by
  obtain ⟨A, c, rfl, h1, h2, hp⟩ := h
  refine ⟨A, c, rfl, h1, h2, fun h0 => ?_⟩
  obtain ⟨b, o, rfl, hlt, hc⟩ := hp h0
  refine ⟨b, o, rfl, hlt, fun j hj => ?_⟩
  obtain ⟨x, q2, q3⟩ := hc j hj
  exact ⟨x, (hb.cell (p := ⟨b, o + j, none⟩) hlt).trans q2, q3.below hb⟩
theorem PathV.more {B' : Nat} {v : Value} {ps : List (List UInt8)} (h : PathV w B v ps) (hB : B ≤ B') : PathV w B' v ps := by
  obtain ⟨A, c, rfl, h1, h2, hp⟩ := h
  refine ⟨A, c, rfl, h1, h2, fun h0 => ?_⟩
  obtain ⟨b, o, rfl, hlt, hc⟩ := hp h0
  refine ⟨b, o, rfl, by omega, fun j hj => ?_⟩
  obtain ⟨x, q2, q3⟩ := hc j hj
  exact ⟨x, q2, q3.more hB⟩
/-- what a leaf says -/
structure Lf where
  at_ : Int
  key : ByteArray
  val : List UInt8
  path : List (List UInt8)
/-- a leaf handed in -/
def LeafV (w : World) (B : Nat) (v : Value) (l : Lf) : Prop :=
  ∃ sv pv, v = .agg #[.int .i64 l.at_, .string l.key, sv, pv] ∧ Rd w B sv l.val ∧ PathV w B pv l.path ∧ l.key.size ≤ maxLen ∧ -9223372036854775808 ≤ l.at_ ∧ l.at_ ≤ 9223372036854775807
theorem LeafV.below {v : Value} {l : Lf} (h : LeafV w B v l) (hb : Below B w w') : LeafV w' B v l := by
  obtain ⟨sv, pv, rfl, h1, h2, h3⟩ := h
  exact ⟨sv, pv, rfl, h1.below hb, h2.below hb, h3⟩
theorem LeafV.more {B' : Nat} {v : Value} {l : Lf} (h : LeafV w B v l) (hB : B ≤ B') : LeafV w B' v l := by
  obtain ⟨sv, pv, rfl, h1, h2, h3⟩ := h
  exact ⟨sv, pv, rfl, h1.more hB, h2.more hB, h3⟩
def fitsB (n : Int) (l : Lf) : Bool := decide (1 ≤ n ∧ n ≤ 65536 ∧ 0 ≤ l.at_ ∧ l.at_ < n) && (l.path.all (fun x => decide (x.length = 32)) && (keyB l.key && decide (l.val.length ≤ 65535)))
def holdsB (root : List UInt8) (n : Int) (l : Lf) : Bool := fitsB n l && (match upT nodeH (leafH l.key l.val) l.at_.toNat n.toNat l.path with | none => false | some h => decide (rootH n.toNat h = root))

theorem bits_xor_one (i : Nat) (h : i < 1000000) : bits .xor .i64 (i : Int) 1 = ((i ^^^ 1 : Nat) : Int) := by
  have h1 := xor_one i
  have h2 : i ^^^ 1 < 1000001 := by rw [h1]; split <;> omega
  have e : (BitVec.ofInt 64 (i : Int) ^^^ BitVec.ofInt 64 1).toNat = i ^^^ 1 := by
    rw [BitVec.toNat_xor, BitVec.ofInt_natCast, BitVec.toNat_ofNat, Nat.mod_eq_of_lt (by omega)]
    rfl
  show IntKind.i64.wrap ((BitVec.ofInt 64 (i : Int) ^^^ BitVec.ofInt 64 1).toNat : Int) = _
  rw [e, IntKind.wrap_i64]
  omega

end Go.Proofs.YtcgkonpepmoliaaGreatDoor
namespace Go.Proofs.YtcgkonpepmoliaaGreatDoor
set_option maxRecDepth 100000
open Go Go.RowKit
set_option linter.unusedVariables false
variable {w w' : World} {B : Nat}

theorem PathV.tail {b o c n : Nat} {x : List UInt8} {q : List (List UInt8)} (h : PathV w B (.slice (some ⟨b, o, none⟩) n c) (x :: q)) : PathV w B (.slice (some ⟨b, o + 1, none⟩) (n - 1) (c - 1)) q ∧ n = q.length + 1 ∧ 1 ≤ c ∧ c ≤ maxLen ∧ n ≤ c ∧ ∃ y, w.cell? ⟨b, o, none⟩ = some y ∧ Rd w B y x := by
  obtain ⟨A, c', e, h1, h2, hp⟩ := h
  injection e with e1 e2 e3
  subst e2; subst e3
  obtain ⟨b', o', rfl, hb, hc⟩ := hp (by simp)
  injection e1 with e1
  injection e1 with e1 e2
  subst e1; subst e2
  simp only [List.length_cons] at h1 ⊢
  refine ⟨⟨_, _, rfl, by omega, by omega, fun h0 => ⟨b, o + 1, rfl, hb, fun j hj => ?_⟩⟩, by first | trivial | rfl, by omega, h2, by omega, ?_⟩
  · obtain ⟨y, hy, hr⟩ := hc (j + 1) (by simp; omega)
    refine ⟨y, ?_, by simpa using hr⟩
    rw [← hy, Nat.add_assoc, Nat.add_comm 1 j]
  · obtain ⟨y, hy, hr⟩ := hc 0 (by simp)
    exact ⟨y, by simpa using hy, by simpa using hr⟩
theorem PathV.none_ (A : Option Addr) (c : Nat) (hc : c ≤ maxLen) : PathV w B (.slice A 0 c) [] := ⟨A, c, rfl, Nat.zero_le _, hc, fun h => absurd h (by simp)⟩
theorem PathV.form {v : Value} {q : List (List UInt8)} (h : PathV w B v q) : ∃ A c, v = .slice A q.length c := by
  obtain ⟨A, c, rfl, _⟩ := h
  exact ⟨A, c, rfl⟩

theorem fitsB_iff {n : Int} {l : Lf} (h : fitsB n l = true) : 1 ≤ n ∧ n ≤ 65536 ∧ 0 ≤ l.at_ ∧ l.at_ < n := by
  unfold fitsB at h
  simp only [Bool.and_eq_true, decide_eq_true_eq] at h
  exact h.1
def endB (root : List UInt8) (n : Nat) (o : Option (List UInt8)) : Bool := match o with | none => false | some h => decide (rootH n h = root)
theorem holdsB_no {root : List UInt8} {n : Int} {l : Lf} (h : fitsB n l = false) : holdsB root n l = false := by unfold holdsB; rw [h]; rfl
theorem holdsB_some {root : List UInt8} {n : Int} {l : Lf} (h : fitsB n l = true) : holdsB root n l = endB root n.toNat (upT nodeH (leafH l.key l.val) l.at_.toNat n.toNat l.path) := by unfold holdsB; rw [h]; rfl

end Go.Proofs.YtcgkonpepmoliaaGreatDoor
namespace Go.Proofs.YtcgkonpepmoliaaGreatDoor
set_option maxRecDepth 100000
open Go Go.RowKit
set_option linter.unusedVariables false
variable {w w' : World} {B : Nat}

/-- a leaf in a row of leaves -/
def LeafAt (w : World) (B b o : Nat) (l : Lf) : Prop :=
  ∃ sv pv, w.cell? ⟨b, o, none⟩ = some (.int .i64 l.at_) ∧ w.cell? ⟨b, o + 1, none⟩ = some (.string l.key) ∧ w.cell? ⟨b, o + 2, none⟩ = some sv ∧ w.cell? ⟨b, o + 3, none⟩ = some pv ∧ LeafV w B (.agg #[.int .i64 l.at_, .string l.key, sv, pv]) l
/-- leaves handed in -/
def LeavesV (w : World) (B : Nat) (v : Value) (ls : List Lf) : Prop :=
  ∃ A c, v = .slice A ls.length c ∧ ls.length ≤ c ∧ c ≤ maxLen ∧ (0 < ls.length → ∃ b o, A = some ⟨b, o, none⟩ ∧ b < B ∧ ∀ j (h : j < ls.length), LeafAt w B b (o + j * 4) ls[j])
theorem LeafAt.below {b o : Nat} {l : Lf} (h : LeafAt w B b o l) (hb : Below B w w') (hl : b < B) : LeafAt w' B b o l := by
  obtain ⟨sv, pv, h0, h1, h2, h3, h4⟩ := h
  exact ⟨sv, pv, (hb.cell (p := ⟨b, o, none⟩) hl).trans h0, (hb.cell (p := ⟨b, o + 1, none⟩) hl).trans h1, (hb.cell (p := ⟨b, o + 2, none⟩) hl).trans h2, (hb.cell (p := ⟨b, o + 3, none⟩) hl).trans h3, h4.below hb⟩
theorem LeafAt.more {B' b o : Nat} {l : Lf} (h : LeafAt w B b o l) (hB : B ≤ B') : LeafAt w B' b o l := by
  obtain ⟨sv, pv, h0, h1, h2, h3, h4⟩ := h
  exact ⟨sv, pv, h0, h1, h2, h3, h4.more hB⟩
theorem LeavesV.below {v : Value} {ls : List Lf} (h : LeavesV w B v ls) (hb : Below B w w') : LeavesV w' B v ls := by
  obtain ⟨A, c, rfl, h1, h2, hp⟩ := h
  refine ⟨A, c, rfl, h1, h2, fun h0 => ?_⟩
  obtain ⟨b, o, rfl, hlt, hc⟩ := hp h0
  exact ⟨b, o, rfl, hlt, fun j hj => (hc j hj).below hb hlt⟩
theorem LeavesV.more {B' : Nat} {v : Value} {ls : List Lf} (h : LeavesV w B v ls) (hB : B ≤ B') : LeavesV w B' v ls := by
  obtain ⟨A, c, rfl, h1, h2, hp⟩ := h
  refine ⟨A, c, rfl, h1, h2, fun h0 => ?_⟩
  obtain ⟨b, o, rfl, hlt, hc⟩ := hp h0
  exact ⟨b, o, rfl, by omega, fun j hj => (hc j hj).more hB⟩
structure Pf where
  n : Int
  ls : List Lf
/-- a proof handed in -/
def ProofV (w : World) (B : Nat) (v : Value) (p : Pf) : Prop :=
  ∃ lv, v = .agg #[.int .i64 p.n, lv] ∧ LeavesV w B lv p.ls ∧ -9223372036854775808 ≤ p.n ∧ p.n ≤ 9223372036854775807
theorem ProofV.below {v : Value} {p : Pf} (h : ProofV w B v p) (hb : Below B w w') : ProofV w' B v p := by
  obtain ⟨lv, rfl, h1, h2⟩ := h
  exact ⟨lv, rfl, h1.below hb, h2⟩
theorem ProofV.more {B' : Nat} {v : Value} {p : Pf} (h : ProofV w B v p) (hB : B ≤ B') : ProofV w B' v p := by
  obtain ⟨lv, rfl, h1, h2⟩ := h
  exact ⟨lv, rfl, h1.more hB, h2⟩

def verifyB (root : List UInt8) (key : ByteArray) (val : List UInt8) (p : Pf) : Bool := match p.ls with
  | [l] => (l.key.toList == key.toList) && (sameB l.val val && holdsB root p.n l)
  | _ => false
theorem verifyB_one {root : List UInt8} {key : ByteArray} {val : List UInt8} {n : Int} {l : Lf} : verifyB root key val ⟨n, [l]⟩ = ((l.key.toList == key.toList) && (sameB l.val val && holdsB root n l)) := rfl
theorem verifyB_no {root : List UInt8} {key : ByteArray} {val : List UInt8} {n : Int} {ls : List Lf} (h : ls.length ≠ 1) : verifyB root key val ⟨n, ls⟩ = false := by
  rcases ls with _ | ⟨a, _ | ⟨b, l⟩⟩
  · rfl
  · exact absurd rfl h
  · rfl

end Go.Proofs.YtcgkonpepmoliaaGreatDoor
namespace Go.Proofs.YtcgkonpepmoliaaGreatDoor
set_option maxRecDepth 100000
open Go Go.RowKit
set_option linter.unusedVariables false
variable {w w' : World} {B : Nat}

theorem leaves_length (ps : List Pr) : (leaves ps).length = ps.length := by unfold leaves; rw [List.length_map]
theorem Below.set4' {B : Nat} {w w' : World} {g : Nat} (h : Below B w w') (hg : B ≤ g) (x0 x1 x2 x3 : Value) : Below B w ((((w'.setCell ⟨g, 0, none⟩ x0).setCell ⟨g, 1, none⟩ x1).setCell ⟨g, 2, none⟩ x2).setCell ⟨g, 3, none⟩ x3) :=
  (((h.setCell hg x0).setCell hg x1).setCell hg x2).setCell hg x3
/-- a leaf's way made: its value, its way -/
def leafM (ps : List Pr) (i : Nat) : Lf := ⟨(i : Int), (ps.getD i (⟨#[]⟩, [])).1, (ps.getD i (⟨#[]⟩, [])).2, wayT nodeH (leaves ps) i⟩
/-- a leaf of the call's own -/
def LeafN (w : World) (B0 B : Nat) (v : Value) (l : Lf) : Prop :=
  ∃ sv pv, v = .agg #[.int .i64 l.at_, .string l.key, sv, pv] ∧ Own w B sv l.val ∧ OwnR w B0 B pv l.path
end Go.Proofs.YtcgkonpepmoliaaGreatDoor
