
/- SHA-256 in plain words: the state. -/
import Derived.Test.YtohnhdandkkonaaDoorShaSpec
namespace Go.Proofs.YtohnhdandkkonaaDoor
set_option maxRecDepth 100000
open Go.RowKit

structure S8 where
  (a b c d e f g h : UInt32)
def S8.list (s : S8) : List Value := [w32 s.a, w32 s.b, w32 s.c, w32 s.d, w32 s.e, w32 s.f, w32 s.g, w32 s.h]
def S8.val (s : S8) : Value := .agg #[.int .u32 (s.a.toNat : Int), .int .u32 (s.b.toNat : Int), .int .u32 (s.c.toNat : Int), .int .u32 (s.d.toNat : Int), .int .u32 (s.e.toNat : Int), .int .u32 (s.f.toNat : Int), .int .u32 (s.g.toNat : Int), .int .u32 (s.h.toNat : Int)]
def t1of (k w : UInt32) (s : S8) : UInt32 := s.h + (rotr s.e 6 ^^^ rotr s.e 11 ^^^ rotr s.e 25) + (s.e &&& s.f ^^^ (~~~ s.e) &&& s.g) + k + w
def t2of (s : S8) : UInt32 := (rotr s.a 2 ^^^ rotr s.a 13 ^^^ rotr s.a 22) + (s.a &&& s.b ^^^ s.a &&& s.c ^^^ s.b &&& s.c)
def S8.step (k w : UInt32) (s : S8) : S8 := ⟨t1of k w s + t2of s, s.a, s.b, s.c, s.d + t1of k w s, s.e, s.f, s.g⟩
def kTab : List UInt32 := [
  0x428a2f98, 0x71374491, 0xb5c0fbcf, 0xe9b5dba5, 0x3956c25b, 0x59f111f1, 0x923f82a4, 0xab1c5ed5,
  0xd807aa98, 0x12835b01, 0x243185be, 0x550c7dc3, 0x72be5d74, 0x80deb1fe, 0x9bdc06a7, 0xc19bf174,
  0xe49b69c1, 0xefbe4786, 0x0fc19dc6, 0x240ca1cc, 0x2de92c6f, 0x4a7484aa, 0x5cb0a9dc, 0x76f988da,
  0x983e5152, 0xa831c66d, 0xb00327c8, 0xbf597fc7, 0xc6e00bf3, 0xd5a79147, 0x06ca6351, 0x14292967,
  0x27b70a85, 0x2e1b2138, 0x4d2c6dfc, 0x53380d13, 0x650a7354, 0x766a0abb, 0x81c2c92e, 0x92722c85,
  0xa2bfe8a1, 0xa81a664b, 0xc24b8b70, 0xc76c51a3, 0xd192e819, 0xd6990624, 0xf40e3585, 0x106aa070,
  0x19a4c116, 0x1e376c08, 0x2748774c, 0x34b0bcb5, 0x391c0cb3, 0x4ed8aa4a, 0x5b9cca4f, 0x682e6ff3,
  0x748f82ee, 0x78a5636f, 0x84c87814, 0x8cc70208, 0x90befffa, 0xa4506ceb, 0xbef9a3f7, 0xc67178f2]
def kVals : Array Value := (kTab.map w32).toArray
def rounds (ws : List UInt32) (s : S8) : Nat → S8
  | 0 => s
  | t + 1 => (rounds ws s t).step (kTab.getD t 0) (ws.getD t 0)
def S8.add (s r : S8) : S8 := ⟨s.a + r.a, s.b + r.b, s.c + r.c, s.d + r.d, s.e + r.e, s.f + r.f, s.g + r.g, s.h + r.h⟩
/-- the state behind 64 bytes more -/
def taken8 (s : S8) (l : List UInt8) : S8 := s.add (rounds (sw l 64) s 64)

theorem kTab_get (t : Nat) (h : t < 64) : kVals[t]? = some (.int .u32 ((kTab.getD t 0).toNat : Int)) := by
  unfold kVals
  rw [List.getElem?_toArray, List.getElem?_map, List.getElem?_eq_getElem (show t < kTab.length from h)]
  simp [w32, List.getD_eq_getElem?_getD, List.getElem?_eq_getElem (show t < kTab.length from h)]
end Go.Proofs.YtohnhdandkkonaaDoor
