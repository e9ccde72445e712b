
/- The law's fixed answers about fees, walked. Calls on fees, in rows. -/
import Derived.Test.YtlkbjhhbpmmamaaGreatDoorFeeH1
import Derived.Test.YtlkbjhhbpmmamaaGreatDoorBankD
namespace Go.Proofs.YtlkbjhhbpmmamaaGreatDoor
set_option maxRecDepth 100000
open Go Go.RowKit
set_option linter.unusedVariables false

section
variable {W W' W2 : World} {y : Lyr} {l : List Lyr} {R : List Pr} {k : Nat}
theorem At.mint (h : At W y l R k W') (hn : y.n + k + 2 ≤ maxLen) (a d : ByteArray) (x : U4) (hx : x.ok) (ha : a.size ≤ 100000000) (hd : d.size ≤ 100000000) :
    Calls Tryz.prog 76 #[.pointer (some ⟨y.b, 0, none⟩), .string a, .string d, x.val] W' fun e w' => e = .returned (.int .i64 (mintM R a d x).1) ∧ At W y l (mintM R a d x).2 (k + 2) w' ∧ Kept W' w' := by
  obtain ⟨n, f, h1, h2, h3, h4⟩ := h.b
  refine (mint_any h1 h2 (show n + 2 ≤ maxLen by omega) a d x hx ha hd).mono ?_
  rintro e w' ⟨he, hq⟩
  exact ⟨he, ⟨BankS.joinX h3 h4 hq, h.p⟩, At.kept ⟨hq, h1⟩⟩
theorem At.bal (h : At W y l R k W') (a d : ByteArray) (ha : a.size ≤ 100000000) (hd : d.size ≤ 100000000) :
    Calls Tryz.prog 77 #[.pointer (some ⟨y.b, 0, none⟩), .string a, .string d] W' fun e w' => e = .returned (balM R a d).val ∧ Below W'.heap.size W' w' := by
  obtain ⟨n, f, h1, h2, h3, h4⟩ := h.b
  rw [← balV_seen h2 a d]
  exact bal_any h1 a d ha hd
end
theorem rd_one (Z : World) (u : UInt8) : Rd (Z.alloc (.cells #[bval u] 5)) (Z.alloc (.cells #[bval u] 5)).heap.size (.slice (some ⟨Z.heap.size, 0, none⟩) 1 1) [u] := by
  have hg := heap_alloc_new Z (.cells #[bval u] 5)
  refine ⟨_, _, rfl, Nat.le_refl _, by simp [maxLen], fun _ => ⟨Z.heap.size, 0, rfl, blk_lt hg, fun j hj => ?_⟩⟩
  rcases j with _ | j
  · exact blk_cell hg 0
  · simp at hj
theorem rdp_oneF (w : World) (s : ByteArray) (v : Value) (l : List UInt8) (hr : Rd w w.heap.size v l) : RdP (w.alloc (.cells #[.string s, v] 87)) (w.alloc (.cells #[.string s, v] 87)).heap.size (.slice (some ⟨w.heap.size, 0, none⟩) 1 1) [(s, l)] := by
  have hb : Below w.heap.size w (w.alloc (.cells #[.string s, v] 87)) := (Below.refl _ _).alloc (Nat.le_refl _) _
  have hg := heap_alloc_new w (.cells #[.string s, v] 87)
  refine ⟨_, _, rfl, Nat.le_refl _, by simp [maxLen], fun _ => ⟨w.heap.size, 0, rfl, blk_lt hg, fun j hj => ?_⟩⟩
  rcases j with _ | j
  · exact ⟨blk_cell hg 0, _, blk_cell hg 1, (hr.below hb).more hb.size⟩
  · simp at hj
theorem eqself (x : U4) : ∀ W, (binOp .eql 31 x.val x.val).run Tryz.prog W = .ok (.bool true) W := fun W => by
  have h := eql4 x x W
  rw [eqB_refl] at h
  exact h
def fxChan : ByteArray := ⟨#[99, 104, 97, 110, 45, 48]⟩
def fxAnn : ByteArray := ⟨#[97, 110, 110]⟩
def fxFuel : ByteArray := ⟨#[102, 117, 101, 108]⟩
def fxRos : ByteArray := ⟨#[114, 111, 115]⟩
def fxRob : ByteArray := ⟨#[114, 111, 98]⟩
def fxV : PdV := ⟨fxAnn, fxFuel, ⟨3, 0, 0, 0⟩, ⟨2, 0, 0, 0⟩, ⟨1, 0, 0, 0⟩⟩
def fx0 : List Pr := [(kPl wCommit fxChan 1, [1])]
def fx1 : List Pr := (mintM fx0 fxAnn fxFuel ⟨9, 0, 0, 0⟩).2
def fx2 : List Pr := (aheadM fx1 fxChan 1 fxV).2
def fx3 : List Pr := (settleM fx2 fxChan 1 fxRos fxRob false).2
theorem fxM1 : (mintM fx0 fxAnn fxFuel ⟨9, 0, 0, 0⟩).1 = 0 := by decide +kernel
theorem fxA2 : (aheadM fx1 fxChan 2 fxV).1 = 130 := by decide +kernel
theorem fxA1 : (aheadM fx1 fxChan 1 fxV).1 = 0 := by decide +kernel
theorem fxA3 : (aheadM fx2 fxChan 1 fxV).1 = 150 := by decide +kernel
theorem fxE2 : aheadM fx1 fxChan 2 fxV = (130, fx1) := Prod.ext fxA2 (ahead_no (by rw [fxA2]; decide))
theorem fxE1 : aheadM fx1 fxChan 1 fxV = (0, fx2) := Prod.ext fxA1 rfl
theorem fxE3 : aheadM fx2 fxChan 1 fxV = (150, fx2) := Prod.ext fxA3 (ahead_no (by rw [fxA3]; decide))
theorem fxS1 : (settleM fx2 fxChan 1 fxRos fxRob false).1 = 0 := by decide +kernel
theorem fxB1 : eqB (balM fx3 fxRos fxFuel) ⟨3, 0, 0, 0⟩ = true := by decide +kernel
theorem fxB2 : eqB (balM fx3 fxRob fxFuel) ⟨2, 0, 0, 0⟩ = true := by decide +kernel
theorem fxB3 : eqB (balM fx3 fxAnn fxFuel) ⟨4, 0, 0, 0⟩ = true := by decide +kernel
theorem fxB4 : eqB (balM fx3 poolS fxFuel) ⟨0, 0, 0, 0⟩ = true := by decide +kernel
theorem fxOrd : ordR none fx0 = true := by decide +kernel
theorem fxSmall : ∀ p ∈ fx0, p.1.size ≤ maxLen := by decide +kernel
set_option maxHeartbeats 8000000 in
theorem ffixed_any (w : World) : Calls Tryz.prog 15 #[] w fun e w' => e = .returned (.bool true) ∧ Below w.heap.size w w' := by
  have HK := Lib.hid (pCommit_any fxChan 1 w (by decide) (by decide +kernel))
  obtain ⟨K, hK⟩ : ∃ K, K = kPl wCommit fxChan 1 := ⟨_, rfl⟩
  rw [← hK] at HK
  have HN : Hid (∀ Z : World, Calls Tryz.prog 14 #[.slice (some ⟨Z.heap.size + 1, 0, none⟩) 1 1] ((Z.alloc (.cells #[.int .u8 1] 5)).alloc (.cells #[.string K, .slice (some ⟨Z.heap.size, 0, none⟩) 1 1] 87)) fun e w' => ∃ yb ym yf, e = .returned (.tuple #[.pointer (some ⟨yb, 0, none⟩), .int .i64 0]) ∧ Z.heap.size ≤ ym ∧ At w' ⟨yb, ym, 1, yf⟩ [] fx0 0 w' ∧ Below Z.heap.size Z w') := Lib.hid fun Z => by
    have hz : Below Z.heap.size Z (Z.alloc (.cells #[.int .u8 1] 5)) := (Below.refl _ _).alloc (Nat.le_refl _) _
    have hz2 := hz.alloc hz.size (.cells #[.string K, .slice (some ⟨Z.heap.size, 0, none⟩) 1 1] 87)
    have hnew := new_any _ _ fx0 (rdp_oneF (Z.alloc (.cells #[bval 1] 5)) (kPl wCommit fxChan 1) _ [1] (rd_one Z 1)) fxSmall
    rw [← hK, show bval 1 = .int .u8 1 from rfl, show (Z.alloc (.cells #[.int .u8 1] 5)).heap.size = Z.heap.size + 1 by simp] at hnew
    refine hnew.mono ?_
    rintro e w' ⟨⟨h, -⟩ | ⟨-, y, rfl, h1, h2, h3, h4, h5, h6⟩, hb⟩
    · rw [fxOrd] at h; cases h
    · obtain ⟨yb, ym, yn, yf⟩ := y
      have h3' : yn = 1 := h3
      subst h3'
      exact ⟨yb, ym, yf, rfl, Nat.le_trans hz2.size h2, At.made h6 h4 h5 fxSmall, hz2.trans (hb.mono hz2.size)⟩
  clear hK
  have HPAY := Lib.hid (fun Z : World => heap_alloc_new Z (.cells #[.string ⟨#[102, 117, 101, 108]⟩, .int .u64 3, .int .u64 0, .int .u64 0, .int .u64 0, .int .u64 2, .int .u64 0, .int .u64 0, .int .u64 0, .int .u64 1, .int .u64 0, .int .u64 0, .int .u64 0] 42))
  go_enter Tryz.func15, Tryz.ntmps15
  unfold fxChan at HK
  go_wp2_with fail
  refine HK.out.mono ?_
  rintro e w1 ⟨rfl, hb1⟩
  have HN1 := Lib.hid (HN.out w1)
  clear HK HN
  go_wp2_with fail
  refine HN1.out.mono ?_
  rintro e w2 ⟨yb, ym, yf, rfl, hym, A2, hb2⟩
  have hq2 := hb1.trans (hb2.mono hb1.size)
  have hym2 : w.heap.size ≤ ym := Nat.le_trans hb1.size hym
  have HQ := Lib.hid (And.intro hq2 hym2)
  have HM := Lib.hid (A2.mint (show 1 + 0 + 2 ≤ maxLen by unfold maxLen; decide) fxAnn fxFuel ⟨9, 0, 0, 0⟩ (by unfold U4.ok; decide) (by decide +kernel) (by decide +kernel))
  rw [fxM1] at HM
  clear HN1 hb1 hb2 hym hq2 hym2 A2
  unfold fxAnn fxFuel at HM
  go_wp2_with fail
  refine HM.out.mono ?_
  rintro e w3 ⟨rfl, A3, -⟩
  replace A3 : At w2 ⟨yb, ym, 1, yf⟩ [] fx1 2 w3 := A3
  have hp3 := HPAY.out w3
  have hb3 : Below w3.heap.size w3 (w3.alloc (.cells #[.string ⟨#[102, 117, 101, 108]⟩, .int .u64 3, .int .u64 0, .int .u64 0, .int .u64 0, .int .u64 2, .int .u64 0, .int .u64 0, .int .u64 0, .int .u64 1, .int .u64 0, .int .u64 0, .int .u64 0] 42)) := (Below.refl _ _).alloc (Nat.le_refl _) _
  have A4 := A3.up hb3
  have HG := Lib.hid (fahead_any A4 (show 1 + 2 + 3 ≤ maxLen by unfold maxLen; decide) fxAnn fxChan 2 (by decide) fxFuel ⟨3, 0, 0, 0⟩ ⟨2, 0, 0, 0⟩ ⟨1, 0, 0, 0⟩ (by unfold U4.ok; decide) (by unfold U4.ok; decide) (by unfold U4.ok; decide) (by decide +kernel) (by decide +kernel) (by decide +kernel))
  rw [show aheadM fx1 fxChan 2 ⟨fxAnn, fxFuel, ⟨3, 0, 0, 0⟩, ⟨2, 0, 0, 0⟩, ⟨1, 0, 0, 0⟩⟩ = (130, fx1) from fxE2] at HG
  have b0 := blk_cell hp3 0
  have b1 := blk_cell hp3 1
  have b2 := blk_cell hp3 2
  have b3 := blk_cell hp3 3
  have b4 := blk_cell hp3 4
  have b5 := blk_cell hp3 5
  have b6 := blk_cell hp3 6
  have b7 := blk_cell hp3 7
  have b8 := blk_cell hp3 8
  have b9 := blk_cell hp3 9
  have b10 := blk_cell hp3 10
  have b11 := blk_cell hp3 11
  have b12 := blk_cell hp3 12
  have HP := Lib.hid hp3
  clear hp3 hb3 A3 A4 HM
  unfold fxAnn fxFuel fxChan at HG
  go_wp2_with fail
  refine HG.out.mono ?_
  rintro e w5 ⟨rfl, A5, hk5⟩
  try dsimp only at A5
  have hp5 := hk5.blockX HP.out
  have HG2 := Lib.hid (fahead_any A5 (show 1 + (2 + 3) + 3 ≤ maxLen by unfold maxLen; decide) fxAnn fxChan 1 (by decide) fxFuel ⟨3, 0, 0, 0⟩ ⟨2, 0, 0, 0⟩ ⟨1, 0, 0, 0⟩ (by unfold U4.ok; decide) (by unfold U4.ok; decide) (by unfold U4.ok; decide) (by decide +kernel) (by decide +kernel) (by decide +kernel))
  rw [show aheadM fx1 fxChan 1 ⟨fxAnn, fxFuel, ⟨3, 0, 0, 0⟩, ⟨2, 0, 0, 0⟩, ⟨1, 0, 0, 0⟩⟩ = (0, fx2) from fxE1] at HG2
  clear b0 b1 b2 b3 b4 b5 b6 b7 b8 b9 b10 b11 b12 HG HP hk5 A5
  have b0 := blk_cell hp5 0
  have b1 := blk_cell hp5 1
  have b2 := blk_cell hp5 2
  have b3 := blk_cell hp5 3
  have b4 := blk_cell hp5 4
  have b5 := blk_cell hp5 5
  have b6 := blk_cell hp5 6
  have b7 := blk_cell hp5 7
  have b8 := blk_cell hp5 8
  have b9 := blk_cell hp5 9
  have b10 := blk_cell hp5 10
  have b11 := blk_cell hp5 11
  have b12 := blk_cell hp5 12
  have HP := Lib.hid hp5
  clear hp5
  unfold fxAnn fxFuel fxChan at HG2
  go_wp2_with fail
  refine HG2.out.mono ?_
  rintro e w6 ⟨rfl, A6, hk6⟩
  try dsimp only at A6
  have hp6 := hk6.blockX HP.out
  have HG3 := Lib.hid (fahead_any A6 (show 1 + (2 + 3 + 3) + 3 ≤ maxLen by unfold maxLen; decide) fxAnn fxChan 1 (by decide) fxFuel ⟨3, 0, 0, 0⟩ ⟨2, 0, 0, 0⟩ ⟨1, 0, 0, 0⟩ (by unfold U4.ok; decide) (by unfold U4.ok; decide) (by unfold U4.ok; decide) (by decide +kernel) (by decide +kernel) (by decide +kernel))
  rw [show aheadM fx2 fxChan 1 ⟨fxAnn, fxFuel, ⟨3, 0, 0, 0⟩, ⟨2, 0, 0, 0⟩, ⟨1, 0, 0, 0⟩⟩ = (150, fx2) from fxE3] at HG3
  clear b0 b1 b2 b3 b4 b5 b6 b7 b8 b9 b10 b11 b12 HG2 HP hk6 A6
  have b0 := blk_cell hp6 0
  have b1 := blk_cell hp6 1
  have b2 := blk_cell hp6 2
  have b3 := blk_cell hp6 3
  have b4 := blk_cell hp6 4
  have b5 := blk_cell hp6 5
  have b6 := blk_cell hp6 6
  have b7 := blk_cell hp6 7
  have b8 := blk_cell hp6 8
  have b9 := blk_cell hp6 9
  have b10 := blk_cell hp6 10
  have b11 := blk_cell hp6 11
  have b12 := blk_cell hp6 12
  clear hp6
  unfold fxAnn fxFuel fxChan at HG3
  go_wp2_with fail
  refine HG3.out.mono ?_
  rintro e w7 ⟨rfl, A7, -⟩
  try dsimp only at A7
  have HS := Lib.hid (fsettle_any A7 (show 1 + (2 + 3 + 3 + 3) + 8 ≤ maxLen by unfold maxLen; decide) fxChan ⟨#[]⟩ 1 (by decide) none 0 0 0 0 fxRos fxRob false (by decide +kernel) (by decide +kernel) (by decide +kernel))
  rw [show settleM fx2 fxChan 1 fxRos fxRob false = (0, fx3) from Prod.ext fxS1 rfl] at HS
  clear b0 b1 b2 b3 b4 b5 b6 b7 b8 b9 b10 b11 b12 HG3 A7
  unfold fxChan fxRos fxRob at HS
  go_wp2_with fail
  refine HS.out.mono ?_
  rintro e w8 ⟨rfl, A8, -⟩
  try dsimp only at A8
  have q3 : ∀ W, (binOp .eql 31 (.agg #[.int .u64 3, .int .u64 0, .int .u64 0, .int .u64 0]) (.agg #[.int .u64 3, .int .u64 0, .int .u64 0, .int .u64 0])).run Tryz.prog W = .ok (.bool true) W := fun W => eqself ⟨3, 0, 0, 0⟩ W
  have q2 : ∀ W, (binOp .eql 31 (.agg #[.int .u64 2, .int .u64 0, .int .u64 0, .int .u64 0]) (.agg #[.int .u64 2, .int .u64 0, .int .u64 0, .int .u64 0])).run Tryz.prog W = .ok (.bool true) W := fun W => eqself ⟨2, 0, 0, 0⟩ W
  have q4 : ∀ W, (binOp .eql 31 (.agg #[.int .u64 4, .int .u64 0, .int .u64 0, .int .u64 0]) (.agg #[.int .u64 4, .int .u64 0, .int .u64 0, .int .u64 0])).run Tryz.prog W = .ok (.bool true) W := fun W => eqself ⟨4, 0, 0, 0⟩ W
  have q0 : ∀ W, (binOp .eql 31 (.agg #[.int .u64 0, .int .u64 0, .int .u64 0, .int .u64 0]) (.agg #[.int .u64 0, .int .u64 0, .int .u64 0, .int .u64 0])).run Tryz.prog W = .ok (.bool true) W := fun W => eqself ⟨0, 0, 0, 0⟩ W
  have HB := Lib.hid (A8.bal fxRos fxFuel (by decide +kernel) (by decide +kernel))
  rw [eqB_iff.1 fxB1] at HB
  have HA8 := Lib.hid A8
  clear HS A8
  unfold fxRos fxFuel at HB
  unfold U4.val U4.cells at HB
  go_wp2_with fail
  refine HB.out.mono ?_
  rintro e w9 ⟨rfl, hb9⟩
  have A9 := HA8.out.up hb9
  have HB2 := Lib.hid (A9.bal fxRob fxFuel (by decide +kernel) (by decide +kernel))
  rw [eqB_iff.1 fxB2] at HB2
  have HA9 := Lib.hid A9
  clear HB A9 HA8 hb9
  unfold fxRob fxFuel at HB2
  unfold U4.val U4.cells at HB2
  go_wp2_with fail
  refine HB2.out.mono ?_
  rintro e w10 ⟨rfl, hb10⟩
  have A10 := HA9.out.up hb10
  have HB3 := Lib.hid (A10.bal fxAnn fxFuel (by decide +kernel) (by decide +kernel))
  rw [eqB_iff.1 fxB3] at HB3
  have HA10 := Lib.hid A10
  clear HB2 A10 HA9 hb10
  unfold fxAnn fxFuel at HB3
  unfold U4.val U4.cells at HB3
  go_wp2_with fail
  refine HB3.out.mono ?_
  rintro e w11 ⟨rfl, hb11⟩
  have A11 := HA10.out.up hb11
  have HB4 := Lib.hid (A11.bal poolS fxFuel (by decide +kernel) (by decide +kernel))
  rw [eqB_iff.1 fxB4] at HB4
  have HA11 := Lib.hid A11
  clear HB3 A11 HA10 hb11
  unfold poolS fxFuel at HB4
  unfold U4.val U4.cells at HB4
  go_wp2_with fail
  refine HB4.out.mono ?_
  rintro e w12 ⟨rfl, hb12⟩
  have A12 := HA11.out.up hb12
  have hq := HQ.out.1.trans (A12.below HQ.out.2 HQ.out.1.size)
  clear A12 HA11 HB4 hb12
  go_wp2_with fail
  go_ret
  exact ⟨rfl, hq⟩
end Go.Proofs.YtlkbjhhbpmmamaaGreatDoor
namespace Go.Proofs.YtlkbjhhbpmmamaaGreatDoor
set_option maxRecDepth 100000
open Go Go.RowKit
set_option linter.unusedVariables false

structure FOp where
  kd : Int
  fr : ByteArray
  by_ : ByteArray
  id : ByteArray
  seq : Nat
  dn : ByteArray
  x : U4
  y : U4
  z : U4
  late : Bool
def FOp.cells (o : FOp) : Array Value := #[.int .i64 o.kd, .string o.fr, .string o.by_, .string o.id, .int .u64 (o.seq : Int), .string o.dn, .int .u64 (o.x.a : Int), .int .u64 (o.x.b : Int), .int .u64 (o.x.c : Int), .int .u64 (o.x.d : Int), .int .u64 (o.y.a : Int), .int .u64 (o.y.b : Int), .int .u64 (o.y.c : Int), .int .u64 (o.y.d : Int), .int .u64 (o.z.a : Int), .int .u64 (o.z.b : Int), .int .u64 (o.z.c : Int), .int .u64 (o.z.d : Int), .bool o.late]
def FOp.fine (o : FOp) : Prop := o.x.ok ∧ o.y.ok ∧ o.z.ok ∧ o.seq < 18446744073709551616 ∧ o.fr.size ≤ 100000000 ∧ o.by_.size ≤ 100000000 ∧ o.id.size ≤ 100000000 ∧ o.dn.size ≤ 100000000
def RdFO (W : World) (v : Value) (l : List FOp) : Prop := ∃ A c, v = .slice A l.length c ∧ (0 < l.length → ∃ b o, A = some ⟨b, o, none⟩ ∧ b < W.heap.size ∧
  ∀ (j : Nat) (h : j < l.length) (i : Nat) (u : Value), i < 19 → l[j].cells[i]? = some u → W.cell? ⟨b, o + j * 19 + i, none⟩ = some u)
theorem RdFO.kept {W W' : World} {v : Value} {l : List FOp} (h : RdFO W v l) (hk : Kept W W') : RdFO W' v l := by
  obtain ⟨A, c, rfl, hc⟩ := h
  refine ⟨A, c, rfl, fun h0 => ?_⟩
  obtain ⟨b, o, rfl, hb1, hcell⟩ := hc h0
  have hs : W.heap.size ≤ W'.heap.size := by obtain ⟨F, h1, _⟩ := hk; exact h1.size
  exact ⟨b, o, rfl, Nat.lt_of_lt_of_le hb1 hs, fun j hj i u hi hu => hk.cell (hcell j hj i u hi hu)⟩
/-- behind a settlement nothing is paid ahead any more -/
theorem settle_gone {R : List Pr} {id : ByteArray} {n : Nat} {fw by_ : ByteArray} {late : Bool} (h : (settleM R id n fw by_ late).1 = 0) : getPd (settleM R id n fw by_ late).2 id n = none := by
  unfold settleM at h ⊢
  cases hg : getPd R id n with
  | none => exact hg
  | some v =>
    rw [hg] at h
    dsimp only at h ⊢
    split
    · unfold getPd
      rw [getL_putL, if_pos rfl]
      rfl
    · next h1 => rw [if_neg h1] at h; exact absurd h h1
/-- what is put elsewhere leaves what stands under a prefix -/
theorem putL_filter {R : List Pr} (h : Rise R) (pfx key : ByteArray) (v : Option (List UInt8)) (hk : begB pfx key = false) : (putL (key, v) R).filter (fun p => begB pfx p.1) = R.filter (fun p => begB pfx p.1) := by
  refine Rise.ext ((h.put _).filter _) (h.filter _) fun s => ?_
  rw [getL_filter, getL_filter, getL_putL]
  by_cases e : s = key
  · subst e
    rw [hk]
    simp
  · rw [if_neg e]
theorem sup_bal (a d : ByteArray) : begB supP (kBal a d) = false := by
  unfold begB
  rw [kBal_list]
  simp [Lib.hasPrefix, supP]
  rfl
theorem sup_fee (a : ByteArray) (n : Nat) : begB supP (kFee a n) = false := by
  unfold begB kFee
  rw [data_list, data_list, data_list]
  simp [Lib.hasPrefix, supP, feeP]
  rfl
theorem sup_commit (a : ByteArray) (n : Nat) : begB supP (kPl wCommit a n) = false := by
  unfold begB kPl
  rw [data_list, data_list, data_list, data_list, data_list]
  simp [Lib.hasPrefix, supP, ibcS]
  rfl
theorem send_filter {R : List Pr} (h : Rise R) (a b d : ByteArray) (x : U4) : (sendM R a b d x).2.filter (fun p => begB supP p.1) = R.filter (fun p => begB supP p.1) := by
  unfold sendM
  split
  · split
    · split
      · split
        · rfl
        · split
          · unfold keepL
            rw [putL_filter (h.put _) _ _ _ (sup_bal _ _), putL_filter h _ _ _ (sup_bal _ _)]
          · rfl
      · rfl
    · rfl
  · rfl
theorem ahead_filter {R : List Pr} (h : Rise R) (id : ByteArray) (n : Nat) (v : PdV) : (aheadM R id n v).2.filter (fun p => begB supP p.1) = R.filter (fun p => begB supP p.1) := by
  unfold aheadM
  split
  · split
    · split
      · rfl
      · split
        · split
          · rw [putL_filter h.send _ _ _ (sup_fee _ _), send_filter h]
          · rfl
        · rfl
    · rfl
  · rfl
theorem give_rise {R : List Pr} (h : Rise R) (v : PdV) (to : ByteArray) (x : U4) : Rise (giveM R v to x).2 := by
  unfold giveM
  split
  · exact h
  · exact h.send
theorem give_filter {R : List Pr} (h : Rise R) (v : PdV) (to : ByteArray) (x : U4) : (giveM R v to x).2.filter (fun p => begB supP p.1) = R.filter (fun p => begB supP p.1) := by
  unfold giveM
  split
  · rfl
  · exact send_filter h _ _ _ _
theorem gives_both {v : PdV} : ∀ (gl : List (ByteArray × U4)) {R : List Pr}, Rise R → Rise (givesM v gl R).2 ∧ (givesM v gl R).2.filter (fun p => begB supP p.1) = R.filter (fun p => begB supP p.1)
  | [], R, h => ⟨h, rfl⟩
  | g :: gl, R, h => by
    unfold givesM
    split
    · obtain ⟨h1, h2⟩ := gives_both gl (give_rise h v g.1 g.2)
      exact ⟨h1, h2.trans (give_filter h _ _ _)⟩
    · exact ⟨give_rise h _ _ _, give_filter h _ _ _⟩
theorem settle_filter {R : List Pr} (h : Rise R) (id : ByteArray) (n : Nat) (fw by_ : ByteArray) (late : Bool) : (settleM R id n fw by_ late).2.filter (fun p => begB supP p.1) = R.filter (fun p => begB supP p.1) := by
  unfold settleM
  cases getPd R id n with
  | none => rfl
  | some v =>
    obtain ⟨h1, h2⟩ := gives_both (v := v) (giftsM v fw by_ late) h
    dsimp only
    split
    · rw [putL_filter h1 _ _ _ (sup_fee _ _), h2]
    · rfl
theorem setL_filter {R : List Pr} (h : Rise R) (a : ByteArray) (n : Nat) (v : List UInt8) : (setL (kPl wCommit a n) v R).filter (fun p => begB supP p.1) = R.filter (fun p => begB supP p.1) := by
  unfold setL
  split
  · exact putL_filter h _ _ _ (sup_commit _ _)
  · rfl
end Go.Proofs.YtlkbjhhbpmmamaaGreatDoor
