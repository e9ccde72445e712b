
/- The walks of package sha: words. SHA-256 in plain words over lists. The walk of package sha: the words that 64 bytes are spread to. SHA-256 in plain words: the state. The walk of package sha: 64 bytes more. -/
import Derived.Test.YtlkbjhhbpmmamaaInfo0
import Derived.Test.YtlkbjhhbpmmamaaBase0
import Derived.Deep.QuietTactic
import Derived.BigQuiet
namespace Go.Proofs.Ytlkbjhhbpmmamaa
set_option maxRecDepth 100000
open Go.RowKit

theorem and31 (n : Nat) (h0 : 0 < n) (hn : n < 32) : bits BinOp.and IntKind.u64 (IntKind.u64.wrap (-(n : Int))) 31 = ((32 - n : Nat) : Int) := by
  have e : IntKind.u64.wrap (-(n : Int)) = ((18446744073709551616 - n : Nat) : Int) := by rw [IntKind.wrap_u64]; omega
  have := bits_and_u64_nat (18446744073709551616 - n) 31 (by omega) (by omega)
  rw [e, show (31 : Int) = ((31 : Nat) : Int) from rfl, this, show 31 = 2 ^ 5 - 1 from rfl, Nat.and_two_pow_sub_one_eq_mod]
  congr 1
  omega

end Go.Proofs.Ytlkbjhhbpmmamaa
namespace Go.Proofs.Ytlkbjhhbpmmamaa
set_option maxRecDepth 100000
open Go.RowKit

def word4 (a b c d : UInt8) : UInt32 := ((a.toUInt32 <<< 24 ||| b.toUInt32 <<< 16) ||| c.toUInt32 <<< 8) ||| d.toUInt32
def sig0 (x : UInt32) : UInt32 := rotr x 7 ^^^ rotr x 18 ^^^ x >>> 3
def sig1 (x : UInt32) : UInt32 := rotr x 17 ^^^ rotr x 19 ^^^ x >>> 10
/-- the word that follows 16 or more -/
def nextW (p : List UInt32) : UInt32 := sig1 (p.getD (p.length - 2) 0) + p.getD (p.length - 7) 0 + sig0 (p.getD (p.length - 15) 0) + p.getD (p.length - 16) 0
/-- the first t words that 64 bytes are spread to -/
def sw (l : List UInt8) : Nat → List UInt32
  | 0 => []
  | t + 1 => sw l t ++ [if t < 16 then word4 (l.getD (4 * t) 0) (l.getD (4 * t + 1) 0) (l.getD (4 * t + 2) 0) (l.getD (4 * t + 3) 0) else nextW (sw l t)]
theorem sw_length (l : List UInt8) (t : Nat) : (sw l t).length = t := by induction t <;> simp [sw, *]

/-- a row of 64 words, the first of them p -/
def w32 (x : UInt32) : Value := .int .u32 (x.toNat : Int)
def arr64 (p : List UInt32) : List Value := p.map w32 ++ List.replicate (64 - p.length) (w32 0)
theorem arr64_length (p : List UInt32) (h : p.length ≤ 64) : (arr64 p).length = 64 := by simp [arr64]; omega
theorem arr64_get (p : List UInt32) (j : Nat) (h : j < p.length) : (arr64 p)[j]? = some (.int .u32 ((p.getD j 0).toNat : Int)) := by
  unfold arr64
  rw [List.getElem?_append_left (by simpa using h)]
  simp [List.getElem?_eq_getElem h, w32]
theorem arr64_old (p : List UInt32) (h : p.length < 64) : (arr64 p)[p.length]? = some (.int .u32 0) := by
  unfold arr64
  rw [List.getElem?_append_right (by simp), List.length_map, Nat.sub_self, List.getElem?_replicate, if_pos (by omega)]
  rfl
theorem arr64_set (p : List UInt32) (x : UInt32) (h : p.length < 64) : (arr64 p).set p.length (.int .u32 (x.toNat : Int)) = arr64 (p ++ [x]) := by
  unfold arr64
  obtain ⟨k, hk⟩ : ∃ k, 64 - p.length = k + 1 := ⟨63 - p.length, by omega⟩
  have hk2 : 64 - (p ++ [x]).length = k := by simp; omega
  rw [hk, hk2, List.set_append_right _ _ (by simp)]
  simp [List.replicate_succ, w32]
theorem byte32 (a : UInt8) : (a.toNat : Int) % 4294967296 = (a.toUInt32.toNat : Int) := by
  have := a.toNat_lt
  rw [UInt8.toNat_toUInt32]
  omega
theorem word4_walk (a b c d : UInt8) :
    bits .or .u32 (bits .or .u32 (bits .or .u32 ((a.toNat : Int) % 4294967296 * 16777216 % 4294967296) ((b.toNat : Int) % 4294967296 * 65536 % 4294967296)) ((c.toNat : Int) % 4294967296 * 256 % 4294967296)) ((d.toNat : Int) % 4294967296) = ((word4 a b c d).toNat : Int) := by
  have h1 := w_shl a.toUInt32 24 (by omega)
  have h2 := w_shl b.toUInt32 16 (by omega)
  have h3 := w_shl c.toUInt32 8 (by omega)
  rw [show (2 : Int) ^ 24 = 16777216 by rfl] at h1
  rw [show (2 : Int) ^ 16 = 65536 by rfl] at h2
  rw [show (2 : Int) ^ 8 = 256 by rfl] at h3
  rw [byte32, byte32, byte32, byte32, h1, h2, h3, w_or, w_or, w_or]
  rfl
theorem sw_lt (l : List UInt8) (t : Nat) (h : t < 16) (hl : l.length = 64) : sw l (t + 1) = sw l t ++ [word4 (l[4 * t]'(by omega)) (l[4 * t + 1]'(by omega)) (l[4 * t + 2]'(by omega)) (l[4 * t + 3]'(by omega))] := by
  simp only [sw, if_pos h]
  simp [List.getD_eq_getElem?_getD, List.getElem?_eq_getElem (show 4 * t < l.length by omega), List.getElem?_eq_getElem (show 4 * t + 1 < l.length by omega), List.getElem?_eq_getElem (show 4 * t + 2 < l.length by omega), List.getElem?_eq_getElem (show 4 * t + 3 < l.length by omega)]
theorem sw_ge (l : List UInt8) (t : Nat) (h : 16 ≤ t) : sw l (t + 1) = sw l t ++ [nextW (sw l t)] := by
  simp only [sw, if_neg (show ¬ t < 16 by omega)]
end Go.Proofs.Ytlkbjhhbpmmamaa
namespace Go.Proofs.Ytlkbjhhbpmmamaa
set_option maxRecDepth 100000
open Go.RowKit

theorem _root_.Go.results_cell_mid {P : Program} {fn : Func} {p : Tmp} {ty : TypeId} (h : fn.results = #[.cell p ty]) (tmps : Array Value) (w : World) (b o : Nat) (cs : List Value) (d : TypeDesc)
    (hp : tmps.getD p undef = .pointer (some ⟨b, o, none⟩)) (hc : w.rangeAt b o cs) (hu : P.underlying ty = some d) (hd : d.isRow = true) (hi : (P.info? ty).map (·.size) = some cs.length) :
    (results fn tmps).run P w = .ok (.agg cs.toArray) w := by
  have hp' : tmps[p]?.getD undef = .pointer (some ⟨b, o, none⟩) := by simpa using hp
  simp [results, h, hp', asAddr, run_loadVar_mid w b o ty cs d hc hu hd hi]
theorem _root_.Go.heap_setCells_out {k b : Nat} (hb : k ≠ b) : ∀ (cs : List Value) (o : Nat) (w : World), (w.setCells b o cs).heap[k]? = w.heap[k]?
  | [], _, _ => rfl
  | v :: r, o, w => by rw [World.setCells, heap_setCells_out hb r (o + 1), Below.heap_setCell w _ _ k hb]
theorem _root_.Go.Below.setCells {n b : Nat} {w : World} (hb : n ≤ b) : ∀ (cs : List Value) (o : Nat) {w' : World}, Below n w w' → Below n w (w'.setCells b o cs)
  | [], _, _, h => h
  | v :: r, o, _, h => Below.setCells hb r (o + 1) (h.setCell hb v)

end Go.Proofs.Ytlkbjhhbpmmamaa
namespace Go.Proofs.Ytlkbjhhbpmmamaa
set_option maxRecDepth 100000
open Go.RowKit

structure S8 where
  (a b c d e f g h : UInt32)
def S8.list (s : S8) : List Value := [w32 s.a, w32 s.b, w32 s.c, w32 s.d, w32 s.e, w32 s.f, w32 s.g, w32 s.h]
def S8.val (s : S8) : Value := .agg #[.int .u32 (s.a.toNat : Int), .int .u32 (s.b.toNat : Int), .int .u32 (s.c.toNat : Int), .int .u32 (s.d.toNat : Int), .int .u32 (s.e.toNat : Int), .int .u32 (s.f.toNat : Int), .int .u32 (s.g.toNat : Int), .int .u32 (s.h.toNat : Int)]
def t1of (k w : UInt32) (s : S8) : UInt32 := s.h + (rotr s.e 6 ^^^ rotr s.e 11 ^^^ rotr s.e 25) + (s.e &&& s.f ^^^ (~~~ s.e) &&& s.g) + k + w
def t2of (s : S8) : UInt32 := (rotr s.a 2 ^^^ rotr s.a 13 ^^^ rotr s.a 22) + (s.a &&& s.b ^^^ s.a &&& s.c ^^^ s.b &&& s.c)
def S8.step (k w : UInt32) (s : S8) : S8 := ⟨t1of k w s + t2of s, s.a, s.b, s.c, s.d + t1of k w s, s.e, s.f, s.g⟩
def kTab : List UInt32 := [
  0x428a2f98, 0x71374491, 0xb5c0fbcf, 0xe9b5dba5, 0x3956c25b, 0x59f111f1, 0x923f82a4, 0xab1c5ed5,
  0xd807aa98, 0x12835b01, 0x243185be, 0x550c7dc3, 0x72be5d74, 0x80deb1fe, 0x9bdc06a7, 0xc19bf174,
  0xe49b69c1, 0xefbe4786, 0x0fc19dc6, 0x240ca1cc, 0x2de92c6f, 0x4a7484aa, 0x5cb0a9dc, 0x76f988da,
  0x983e5152, 0xa831c66d, 0xb00327c8, 0xbf597fc7, 0xc6e00bf3, 0xd5a79147, 0x06ca6351, 0x14292967,
  0x27b70a85, 0x2e1b2138, 0x4d2c6dfc, 0x53380d13, 0x650a7354, 0x766a0abb, 0x81c2c92e, 0x92722c85,
  0xa2bfe8a1, 0xa81a664b, 0xc24b8b70, 0xc76c51a3, 0xd192e819, 0xd6990624, 0xf40e3585, 0x106aa070,
  0x19a4c116, 0x1e376c08, 0x2748774c, 0x34b0bcb5, 0x391c0cb3, 0x4ed8aa4a, 0x5b9cca4f, 0x682e6ff3,
  0x748f82ee, 0x78a5636f, 0x84c87814, 0x8cc70208, 0x90befffa, 0xa4506ceb, 0xbef9a3f7, 0xc67178f2]
def kVals : Array Value := (kTab.map w32).toArray
def rounds (ws : List UInt32) (s : S8) : Nat → S8
  | 0 => s
  | t + 1 => (rounds ws s t).step (kTab.getD t 0) (ws.getD t 0)
def S8.add (s r : S8) : S8 := ⟨s.a + r.a, s.b + r.b, s.c + r.c, s.d + r.d, s.e + r.e, s.f + r.f, s.g + r.g, s.h + r.h⟩
/-- the state behind 64 bytes more -/
def taken8 (s : S8) (l : List UInt8) : S8 := s.add (rounds (sw l 64) s 64)

theorem kTab_get (t : Nat) (h : t < 64) : kVals[t]? = some (.int .u32 ((kTab.getD t 0).toNat : Int)) := by
  unfold kVals
  rw [List.getElem?_toArray, List.getElem?_map, List.getElem?_eq_getElem (show t < kTab.length from h)]
  simp [w32, List.getD_eq_getElem?_getD, List.getElem?_eq_getElem (show t < kTab.length from h)]
end Go.Proofs.Ytlkbjhhbpmmamaa
namespace Go.Proofs.Ytlkbjhhbpmmamaa
set_option maxRecDepth 100000
open Go.RowKit

theorem w_not (x : UInt32) : bits BinOp.xor IntKind.u32 IntKind.u32.max (x.toNat : Int) = ((~~~ x).toNat : Int) := by
  have hx := x.toNat_lt
  have := xor32 4294967295 x.toNat (by omega) (by omega)
  rw [show IntKind.u32.max = ((4294967295 : Nat) : Int) by rfl, this]
  have h2 : (4294967295 : UInt32) ^^^ x = ~~~ x := by
    refine UInt32.toBitVec_inj.1 ?_
    rw [UInt32.toBitVec_xor, UInt32.toBitVec_not, show (4294967295 : UInt32).toBitVec = BitVec.allOnes 32 by decide]
    exact BitVec.allOnes_xor
  rw [← h2, UInt32.toNat_xor]
  rfl

theorem w_sum (x y : UInt32) : ((x.toNat : Int) + (y.toNat : Int)) % 4294967296 = ((x + y).toNat : Int) := by rw [UInt32.toNat_add]; omega

theorem list_one (s : S8) : ∀ v ∈ s.list, v.oneCell' = true := by
  intro v hv
  simp only [S8.list, List.mem_cons, List.not_mem_nil, or_false] at hv
  rcases hv with rfl | rfl | rfl | rfl | rfl | rfl | rfl | rfl <;> rfl

theorem _root_.Go.wp_build_to {P : Program} {o : Oper} {a : Act} {w : World} {K : Act → World → Prop} {Q : Exit → Act → World → Prop} (t : TypeId) (parts : Array (Nat × Operand)) (cells : Array Value) (ho : o.op = .build t parts)
    (hf : P.built t (parts.map fun (i, x) => (i, a.eval x)).toList = some cells)
    (h : K (a.put o.dst (.agg cells)) w) : o.wp P a w K Q := by
  unfold Oper.wp execOp
  simp only [ho, Sem.run_bind, run_build w t _ cells hf, Result.andThen_ok]
  exact h

theorem info35 : (Try.prog.info? 132).map (fun i => i.size) = some 1 := by kernel_rfl
theorem sw_cells (l : List UInt8) (j : Nat) (h : j < 64) : (arr64 (sw l 64))[j]? = some (.int .u32 (((sw l 64).getD j 0).toNat : Int)) := arr64_get _ _ (by rw [sw_length]; omega)

end Go.Proofs.Ytlkbjhhbpmmamaa
