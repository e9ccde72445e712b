
/- The walk of package sha: the first state. The walk of package sha: the last bytes of a message. The walk of package sha: the sum. The walk of package sha: the sum of a word and parts. How long a sum is. -/
import Derived.Test.YtlkbjhhbpmmamaaShaS0
import Derived.Test.YtlkbjhhbpmmamaaPart
import Derived.Test.YtlkbjhhbpmmamaaWireW0
import Derived.Test.YtlkbjhhbpmmamaaBase0
import Derived.Deep.RegionHeldLaw
namespace Go.Proofs.Ytlkbjhhbpmmamaa
set_option maxRecDepth 100000
open Go.RowKit
def s0 : S8 := ⟨0x6a09e667, 0xbb67ae85, 0x3c6ef372, 0xa54ff53a, 0x510e527f, 0x9b05688c, 0x1f83d9ab, 0x5be0cd19⟩
end Go.Proofs.Ytlkbjhhbpmmamaa
namespace Go.Proofs.Ytlkbjhhbpmmamaa
set_option maxRecDepth 100000
open Go.RowKit

/-- how long the filled-up rest is -/
def fullOf (n : Nat) : Nat := (n + 72) / 64 * 64
def pad (l : List UInt8) (size : Nat) : List UInt8 := over ((over (List.replicate (fullOf l.length) 0) 0 l).set l.length 128) (fullOf l.length - 8) (be (8 * size % 18446744073709551616) 8)
theorem fullOf_le (n : Nat) : n + 9 ≤ fullOf n ∧ fullOf n ≤ n + 72 := by unfold fullOf; omega
theorem pad_length (l : List UInt8) (size : Nat) : (pad l size).length = fullOf l.length := by
  have := fullOf_le l.length
  unfold pad
  have h1 : (over (List.replicate (fullOf l.length) 0) 0 l).length = fullOf l.length := by rw [over_length (by simp; omega)]; simp
  rw [over_length (by rw [be_length, List.length_set, h1]; omega), List.length_set, h1]

end Go.Proofs.Ytlkbjhhbpmmamaa
namespace Go.Proofs.Ytlkbjhhbpmmamaa
set_option maxRecDepth 100000
open Go.RowKit

def eat (s : S8) (l : List UInt8) : Nat → S8
  | 0 => s
  | k + 1 => taken8 (eat s l k) ((l.drop (64 * k)).take 64)
def S8.bytes (s : S8) : List UInt8 := [s.a, s.b, s.c, s.d, s.e, s.f, s.g, s.h].flatMap fun x => be x.toNat 4
def shaEnd (l : List UInt8) : List UInt8 := pad (l.drop (64 * (l.length / 64))) l.length
def shaSum (l : List UInt8) : List UInt8 := (eat (eat s0 l (l.length / 64)) (shaEnd l) ((shaEnd l).length / 64)).bytes

def S8.words (s : S8) : List UInt32 := [s.a, s.b, s.c, s.d, s.e, s.f, s.g, s.h]
def S8.word (s : S8) (t : Nat) : UInt32 := s.words.getD t 0
def S8.out (s : S8) (t : Nat) : List UInt8 := (s.words.take t).flatMap fun x => be x.toNat 4
theorem S8.out_succ (s : S8) (t : Nat) (h : t < 8) : s.out (t + 1) = s.out t ++ be (s.word t).toNat 4 := by
  have hl : t < s.words.length := h
  unfold S8.out S8.word
  generalize s.words = L at *
  rw [List.take_add_one, List.flatMap_append, List.getD_eq_getElem?_getD, List.getElem?_eq_getElem hl]
  simp
theorem S8.out_length (s : S8) (t : Nat) (h : t ≤ 8) : (s.out t).length = 4 * t := by
  induction t with
  | zero => simp [S8.out]
  | succ t ih => rw [s.out_succ t (by omega), List.length_append, ih (by omega), be_length]; omega

theorem lit4 (x : UInt32) : (#[.int .u8 ((x.toNat : Int) / 16777216 % 256), .int .u8 ((x.toNat : Int) / 65536 % 256), .int .u8 ((x.toNat : Int) / 256 % 256), .int .u8 ((x.toNat : Int) % 256)] : Array Value) = (bcells (be x.toNat 4)).toArray := by
  have h : be x.toNat 4 = [UInt8.ofNat (x.toNat / 16777216), UInt8.ofNat (x.toNat / 65536), UInt8.ofNat (x.toNat / 256), UInt8.ofNat (x.toNat / 1)] := rfl
  rw [h]
  simp only [bcells, List.map_cons, List.map_nil, bval_ofNat, Int.natCast_ediv, Nat.div_one]
  rfl

theorem Rd.sub {w : World} {B b o n c : Nat} {l : List UInt8} (h : Rd w B (.slice (some ⟨b, o, none⟩) n c) l) (k m c' : Nat) (hk : k + m ≤ n) (hc : m ≤ c') (hm : c' ≤ maxLen) : Rd w B (.slice (some ⟨b, o + k, none⟩) m c') ((l.drop k).take m) := by
  obtain ⟨A, c0, hv, hlc, hcm, hp⟩ := h
  injection hv with h1 h2 h3
  subst h2
  have hlen : ((l.drop k).take m).length = m := by simp; omega
  refine ⟨some ⟨b, o + k, none⟩, c', by rw [hlen], by omega, hm, fun h0 => ?_⟩
  obtain ⟨b1, o1, e, hb, hcell⟩ := hp (by omega)
  rw [← h1] at e
  injection e with e
  injection e with e1 e2
  subst e1; subst e2
  refine ⟨b, o + k, rfl, hb, fun j hj => ?_⟩
  rw [show o + k + j = o + (k + j) by omega, hcell (k + j) (by omega)]
  simp

theorem Rd.from {w : World} {B n c : Nat} {A : Option Addr} {l : List UInt8} (h : Rd w B (.slice A n c) l) (k : Nat) (hk : k ≤ n) (X : Option Addr) (hX : (if c = k then A else A.map fun x => x.add k) = X) : Rd w B (.slice X (n - k) (c - k)) (l.drop k) := by
  have h0 := h
  obtain ⟨A', c', hv, hlc, hcm, hp⟩ := h0
  injection hv with h1 h2 h3
  subst h1; subst h2; subst h3
  by_cases hz : l.length - k = 0
  · rw [hz, List.drop_eq_nil_of_le (by omega)]
    exact rd_empty (by omega)
  · obtain ⟨b, o, rfl, -, -⟩ := hp (by omega)
    rw [if_neg (by omega)] at hX
    subst hX
    have := h.sub k (l.length - k) (c - k) (by omega) (by omega) (by omega)
    rw [List.take_of_length_le (by simp)] at this
    simp only [Option.map_some, Addr.add_mid]
    exact this

end Go.Proofs.Ytlkbjhhbpmmamaa
namespace Go.Proofs.Ytlkbjhhbpmmamaa
set_option maxRecDepth 100000
open Go.RowKit

/-- bytes with their length ahead -/
def formB (m : List UInt8) : List UInt8 := be (m.take 65535).length 4 ++ m.take 65535
def formBs (ps : List (List UInt8)) : List UInt8 := ps.flatMap formB
theorem formB_length (m : List UInt8) : (formB m).length ≤ 65539 := by simp [formB, be_length]; omega
theorem formBs_length (ps : List (List UInt8)) : (formBs ps).length ≤ 65539 * ps.length := by
  induction ps with
  | nil => simp [formBs]
  | cons p ps ih => have := formB_length p; simp only [formBs, List.flatMap_cons, List.length_append, List.length_cons] at *; omega
theorem formBs_succ (ps : List (List UInt8)) (t : Nat) (h : t < ps.length) : formBs (ps.take (t + 1)) = formBs (ps.take t) ++ formB ps[t] := by
  unfold formBs
  rw [List.take_add_one, List.flatMap_append, List.getElem?_eq_getElem h]
  simp

/-- the slice value v holds slices that read as the rows ps -/
def Parts (w : World) (B : Nat) (v : Value) (ps : List (List UInt8)) : Prop :=
  ∃ A c, v = .slice A ps.length c ∧ (0 < ps.length → ∃ b o, A = some ⟨b, o, none⟩ ∧ b < B ∧ ∀ j (h : j < ps.length), ∃ x, w.cell? ⟨b, o + j, none⟩ = some x ∧ Rd w B x ps[j])

end Go.Proofs.Ytlkbjhhbpmmamaa
namespace Go.Proofs.Ytlkbjhhbpmmamaa
set_option maxRecDepth 100000
open Go.RowKit

theorem rounds_len (s : S8) : s.bytes.length = 32 := rfl
theorem shaSum_length (l : List UInt8) : (shaSum l).length = 32 := rounds_len _
end Go.Proofs.Ytlkbjhhbpmmamaa
