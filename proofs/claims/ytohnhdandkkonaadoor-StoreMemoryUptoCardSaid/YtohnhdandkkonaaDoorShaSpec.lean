
/- SHA-256 in plain words over lists. -/
import Derived.Test.YtohnhdandkkonaaDoorWord
import Derived.Test.YtohnhdandkkonaaDoorBe
namespace Go.Proofs.YtohnhdandkkonaaDoor
set_option maxRecDepth 100000
open Go.RowKit

def word4 (a b c d : UInt8) : UInt32 := ((a.toUInt32 <<< 24 ||| b.toUInt32 <<< 16) ||| c.toUInt32 <<< 8) ||| d.toUInt32
def sig0 (x : UInt32) : UInt32 := rotr x 7 ^^^ rotr x 18 ^^^ x >>> 3
def sig1 (x : UInt32) : UInt32 := rotr x 17 ^^^ rotr x 19 ^^^ x >>> 10
/-- the word that follows 16 or more -/
def nextW (p : List UInt32) : UInt32 := sig1 (p.getD (p.length - 2) 0) + p.getD (p.length - 7) 0 + sig0 (p.getD (p.length - 15) 0) + p.getD (p.length - 16) 0
/-- the first t words that 64 bytes are spread to -/
def sw (l : List UInt8) : Nat → List UInt32
  | 0 => []
  | t + 1 => sw l t ++ [if t < 16 then word4 (l.getD (4 * t) 0) (l.getD (4 * t + 1) 0) (l.getD (4 * t + 2) 0) (l.getD (4 * t + 3) 0) else nextW (sw l t)]
theorem sw_length (l : List UInt8) (t : Nat) : (sw l t).length = t := by induction t <;> simp [sw, *]

/-- a row of 64 words, the first of them p -/
def w32 (x : UInt32) : Value := .int .u32 (x.toNat : Int)
def arr64 (p : List UInt32) : List Value := p.map w32 ++ List.replicate (64 - p.length) (w32 0)
theorem arr64_length (p : List UInt32) (h : p.length ≤ 64) : (arr64 p).length = 64 := by simp [arr64]; omega
theorem arr64_get (p : List UInt32) (j : Nat) (h : j < p.length) : (arr64 p)[j]? = some (.int .u32 ((p.getD j 0).toNat : Int)) := by
  unfold arr64
  rw [List.getElem?_append_left (by simpa using h)]
  simp [List.getElem?_eq_getElem h, w32]
theorem arr64_old (p : List UInt32) (h : p.length < 64) : (arr64 p)[p.length]? = some (.int .u32 0) := by
  unfold arr64
  rw [List.getElem?_append_right (by simp), List.length_map, Nat.sub_self, List.getElem?_replicate, if_pos (by omega)]
  rfl
theorem arr64_set (p : List UInt32) (x : UInt32) (h : p.length < 64) : (arr64 p).set p.length (.int .u32 (x.toNat : Int)) = arr64 (p ++ [x]) := by
  unfold arr64
  obtain ⟨k, hk⟩ : ∃ k, 64 - p.length = k + 1 := ⟨63 - p.length, by omega⟩
  have hk2 : 64 - (p ++ [x]).length = k := by simp; omega
  rw [hk, hk2, List.set_append_right _ _ (by simp)]
  simp [List.replicate_succ, w32]
theorem byte32 (a : UInt8) : (a.toNat : Int) % 4294967296 = (a.toUInt32.toNat : Int) := by
  have := a.toNat_lt
  rw [UInt8.toNat_toUInt32]
  omega
theorem word4_walk (a b c d : UInt8) :
    bits .or .u32 (bits .or .u32 (bits .or .u32 ((a.toNat : Int) % 4294967296 * 16777216 % 4294967296) ((b.toNat : Int) % 4294967296 * 65536 % 4294967296)) ((c.toNat : Int) % 4294967296 * 256 % 4294967296)) ((d.toNat : Int) % 4294967296) = ((word4 a b c d).toNat : Int) := by
  have h1 := w_shl a.toUInt32 24 (by omega)
  have h2 := w_shl b.toUInt32 16 (by omega)
  have h3 := w_shl c.toUInt32 8 (by omega)
  rw [show (2 : Int) ^ 24 = 16777216 by rfl] at h1
  rw [show (2 : Int) ^ 16 = 65536 by rfl] at h2
  rw [show (2 : Int) ^ 8 = 256 by rfl] at h3
  rw [byte32, byte32, byte32, byte32, h1, h2, h3, w_or, w_or, w_or]
  rfl
theorem sw_lt (l : List UInt8) (t : Nat) (h : t < 16) (hl : l.length = 64) : sw l (t + 1) = sw l t ++ [word4 (l[4 * t]'(by omega)) (l[4 * t + 1]'(by omega)) (l[4 * t + 2]'(by omega)) (l[4 * t + 3]'(by omega))] := by
  simp only [sw, if_pos h]
  simp [List.getD_eq_getElem?_getD, List.getElem?_eq_getElem (show 4 * t < l.length by omega), List.getElem?_eq_getElem (show 4 * t + 1 < l.length by omega), List.getElem?_eq_getElem (show 4 * t + 2 < l.length by omega), List.getElem?_eq_getElem (show 4 * t + 3 < l.length by omega)]
theorem sw_ge (l : List UInt8) (t : Nat) (h : 16 ≤ t) : sw l (t + 1) = sw l t ++ [nextW (sw l t)] := by
  simp only [sw, if_neg (show ¬ t < 16 by omega)]
end Go.Proofs.YtohnhdandkkonaaDoor
