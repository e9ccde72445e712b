
/- The law: where all that is kept of any packet is kept. -/
import Derived.Test.YtlkkjnacolmmpaaDoorPktS
import Derived.Test.YtlkkjnacolmmpaaDoorMerkA0
namespace Go.Proofs.YtlkkjnacolmmpaaDoor
set_option maxRecDepth 100000
open Go Go.RowKit
set_option linter.unusedVariables false

def wPkt : ByteArray := ⟨#[112, 97, 99, 107, 101, 116]⟩
set_option maxHeartbeats 4000000 in
theorem phash_any (p : PktV) (vd : Value) (w : World) (hr : Rd w w.heap.size vd p.data) (h1 : p.src.size ≤ maxLen) (h2 : p.dst.size ≤ maxLen) (h3 : p.seq < 18446744073709551616) (h4 : p.ht < 18446744073709551616) (h5 : p.tm < 18446744073709551616)
    (fr : TypeId × Nat × Nat) (hk : w.heap[0]? = some (.cells kVals fr.1 fr.2)) :
    Calls Tryd.prog 35 #[p.val vd] w fun e w' => ∃ v', e = .returned v' ∧ Own w' w.heap.size v' (tagH wPkt [pktB p]) ∧ Below w.heap.size w w' := by
  have hn0 := blk_lt hk
  have HK := Lib.hid hk
  clear hk
  have ha0 : ∀ o, Below w.heap.size w (w.alloc o) := fun o => (Below.refl _ _).alloc (Nat.le_refl _) o
  have HB := Lib.hid (fun o => pbytes_any p vd (w.alloc o) (hr.up (Nat.le_refl _) (ha0 o)) h1 h2 h3 h4 h5)
  obtain ⟨Ad, cd, rfl⟩ := hr.form
  obtain ⟨src, dst, seq, data, ht, tm⟩ := p
  unfold PktV.val at *
  dsimp only at *
  generalize data.length = nd at *
  clear hr h1 h2 h3 h4 h5
  go_enter Tryd.func35, Tryd.ntmps35
  go_wp2_with fail
  refine (HB.out _).mono ?_
  rintro e w1 ⟨v1, rfl, ho1, hb1⟩
  have q1 := below_chain (ha0 _) (ha0 _).size hb1
  have hp := partsA1 w1 v1 _ 41 ho1.rd
  have hbx := q1.alloc q1.size (.cells #[v1] 41)
  have hkx := (hbx.block _ hn0).trans HK.out
  obtain ⟨A, cc, rfl⟩ := ho1.form
  clear ho1
  generalize hLP : pktB _ = LP at *
  generalize LP.length = nl at *
  go_wp2_with fail
  refine (tagged_any wPkt _ [LP] _ hp (by unfold maxLen wPkt; decide) (by simp) fr hkx).mono ?_
  rintro e w2 ⟨v2, rfl, ho2, hb2⟩
  have hq := below_chain hbx hbx.size hb2
  obtain ⟨A2, c2, rfl⟩ := ho2.form
  go_wp2_with fail
  go_ret
  rw [hLP]
  exact ⟨_, rfl, ho2.more hbx.size, hq⟩

theorem visV_new {y : Lyr} (h : LyrIs [] y) (s : ByteArray) : visV [y] s = none := by
  unfold visV
  rw [visD_cons, h s]
  rfl
def kA : ByteArray := ⟨#[97]⟩
def kB : ByteArray := ⟨#[98]⟩
def kChanP : ByteArray := ⟨#[99, 104, 97, 110, 45, 48]⟩
def fixP : PktV := ⟨kA, kB, 3, [1], 4, 5⟩
theorem fixP_read : readP (pktB fixP) = some fixP := by kernel_rfl
theorem fixP_key : kPl wCommit kA 3 = ⟨#[105, 98, 99, 47, 99, 111, 109, 109, 105, 116, 47, 97, 47, 48, 48, 48, 48, 48, 48, 48, 48, 48, 48, 48, 48, 48, 48, 48, 51]⟩ := by decide +kernel

set_option maxHeartbeats 8000000 in
theorem pfixed_any (w : World) (fr : TypeId × Nat × Nat) (hk : w.heap[0]? = some (.cells kVals fr.1 fr.2)) :
    Calls Tryd.prog 20 #[] w fun e w' => e = .returned (.bool true) ∧ Below w.heap.size w w' := by
  have hn0 := blk_lt hk
  have HK := Lib.hid hk
  clear hk
  have HNW : Hid (∀ W : World, _) := Lib.hid (fun W : World => new_any W (.slice none 0 0) [] ⟨none, 0, rfl, Nat.le_refl _, Nat.zero_le _, fun h => absurd h (by simp)⟩ (by simp))
  have b1 : Below w.heap.size w (w.alloc (.cells #[.int .u8 1] 5)) := (Below.refl _ _).alloc (Nat.le_refl _) _
  have hrd := rd_lit w #[.int .u8 1] [1] 1 rfl (by simp [bcells, bval]) (by simp [maxLen])
  have b2 := b1.alloc b1.size (.cells #[.string ⟨#[97]⟩, .string ⟨#[98]⟩, .int .u64 3, .slice (some ⟨w.heap.size, 0, none⟩) 1 1, .int .u64 4, .int .u64 5] 55)
  have k1 := heap_alloc_new (w.alloc (.cells #[.int .u8 1] 5)) (.cells #[.string ⟨#[97]⟩, .string ⟨#[98]⟩, .int .u64 3, .slice (some ⟨w.heap.size, 0, none⟩) 1 1, .int .u64 4, .int .u64 5] 55)
  rw [show (w.alloc (.cells #[.int .u8 1] 5)).heap.size = w.heap.size + 1 by simp] at k1
  have hr1 : Rd (w.alloc (.cells #[.int .u8 1] 5)) (w.alloc (.cells #[.int .u8 1] 5)).heap.size (.slice (some ⟨w.heap.size, 0, none⟩) 1 1) [1] := hrd.more (by simp)
  have HRZ : Hid (∀ Z, Below ((w.alloc (.cells #[.int .u8 1] 5)).alloc (.cells #[.string ⟨#[97]⟩, .string ⟨#[98]⟩, .int .u64 3, .slice (some ⟨w.heap.size, 0, none⟩) 1 1, .int .u64 4, .int .u64 5] 55)).heap.size ((w.alloc (.cells #[.int .u8 1] 5)).alloc (.cells #[.string ⟨#[97]⟩, .string ⟨#[98]⟩, .int .u64 3, .slice (some ⟨w.heap.size, 0, none⟩) 1 1, .int .u64 4, .int .u64 5] 55)) Z → Rd Z Z.heap.size (.slice (some ⟨w.heap.size, 0, none⟩) 1 1) [1]) := Lib.hid fun Z hz =>
    hr1.up (Nat.le_refl _) (((Below.refl _ _).alloc (Nat.le_refl _) _).trans (hz.mono (by simp)))
  generalize hw0 : (w.alloc (.cells #[.int .u8 1] 5)).alloc (.cells #[.string ⟨#[97]⟩, .string ⟨#[98]⟩, .int .u64 3, .slice (some ⟨w.heap.size, 0, none⟩) 1 1, .int .u64 4, .int .u64 5] 55) = w0 at *
  have HB := Lib.hid (pbytes_any fixP (.slice (some ⟨w.heap.size, 0, none⟩) 1 1) w0 (HRZ.out _ (Below.refl _ _)) (by decide +kernel) (by decide +kernel) (by decide) (by decide) (by decide))
  have HH := Lib.hid (fun (Z : World) (hz : Below w0.heap.size w0 Z) => phash_any fixP (.slice (some ⟨w.heap.size, 0, none⟩) 1 1) Z (HRZ.out _ hz) (by decide +kernel) (by decide +kernel) (by decide) (by decide) (by decide) fr (((below_chain b2 b2.size hz).block _ hn0).trans HK.out))
  have HC := Lib.hid (fun W : World => pCommit_any kA 3 W (by decide) (by decide +kernel))
  rw [fixP_key] at HC
  have HPS : Hid (∀ (v : Value) (W : World) (B : Nat), Own W B v (pktB fixP) → Calls Tryd.prog 31 #[v] W fun e w' => (∃ vd, e = .returned (.tuple #[.agg #[.string ⟨#[97]⟩, .string ⟨#[98]⟩, .int .u64 3, vd, .int .u64 4, .int .u64 5], .int .i64 0]) ∧ ∃ B n c, vd = .slice B n c) ∧ Below W.heap.size W w') := Lib.hid fun v W B ho => by
    refine (pparse_any v _ W ho.rd (by decide +kernel)).mono ?_
    rintro e w' ⟨⟨p, vd, h1, rfl, h2⟩ | ⟨h1, -⟩, hb⟩
    · rw [fixP_read] at h1
      cases h1
      obtain ⟨A, c, hv⟩ := h2.form
      exact ⟨⟨vd, rfl, A, _, c, hv⟩, hb⟩
    · rw [fixP_read] at h1
      cases h1
  generalize pktB fixP = LP at *
  unfold PktV.val fixP at HB HH
  unfold kA kB at *
  dsimp only at HB HH
  clear hrd hr1 b1 HRZ
  have x0 := blk_cell k1 0
  have x1 := blk_cell k1 1
  have x2 := blk_cell k1 2
  have x3 := blk_cell k1 3
  have x4 := blk_cell k1 4
  have x5 := blk_cell k1 5
  go_enter Tryd.func20, Tryd.ntmps20
  go_wp2_with fail
  try rw [hw0]
  clear x0 x1 x2 x3 x4 x5 hw0
  refine HB.out.mono ?_
  rintro e w1 ⟨v1, rfl, ho1, hb1⟩
  have HP1 := Lib.hid (HPS.out _ _ _ ho1)
  obtain ⟨A1, c1, rfl⟩ := ho1.form
  generalize LP.length = nl at *
  clear ho1 HB
  go_wp2_with fail
  refine HP1.out.mono ?_
  rintro e w2 ⟨⟨vd, rfl, B2, n2, c2, rfl⟩, hb2⟩
  have q2 := below_chain hb1 hb1.size hb2
  have q3 := q2.alloc q2.size (.cells #[.string ⟨#[97]⟩, .string ⟨#[98]⟩, .int .u64 3, .slice B2 n2 c2, .int .u64 4, .int .u64 5] 55)
  have k2 := heap_alloc_new w2 (.cells #[.string ⟨#[97]⟩, .string ⟨#[98]⟩, .int .u64 3, .slice B2 n2 c2, .int .u64 4, .int .u64 5] 55)
  clear HP1 HPS hb1 hb2 q2
  go_wp2_with fail
  generalize w2.alloc (.cells #[.string ⟨#[97]⟩, .string ⟨#[98]⟩, .int .u64 3, .slice B2 n2 c2, .int .u64 4, .int .u64 5] 55) = w3 at *
  generalize w2.heap.size = g2 at *
  refine (HNW.out _).mono ?_
  rintro e w4 ⟨h1' | ⟨-, y, rfl, hyb, hym, hyn, hly, hri, hp1⟩, hb4⟩
  · exact absurd h1'.1 (by decide)
  have HS := Lib.hid (psend_none y w4 hp1 kChanP (by decide +kernel) (visV_new hly _))
  have q4 := below_chain q3 q3.size hb4
  have k3 := (hb4.block _ (blk_lt k2)).trans k2
  unfold kChanP at HS
  clear hyb hym hyn hly hri hp1 hb4 q3 k2 HNW
  go_wp2_with fail
  refine HS.out.mono ?_
  rintro e w5 ⟨rfl, hb5⟩
  have q5 := below_chain q4 q4.size hb5
  have k4 := (hb5.block _ (blk_lt k3)).trans k3
  have q6 := q5.alloc q5.size (.cells #[.string ⟨#[]⟩, .string ⟨#[]⟩, .int .u64 0, .slice none 0 0, .int .u64 0, .int .u64 0] 55)
  have k5 := (Below.heap_alloc w5 (.cells #[.string ⟨#[]⟩, .string ⟨#[]⟩, .int .u64 0, .slice none 0 0, .int .u64 0, .int .u64 0] 55) _ (blk_lt k4)).trans k4
  have e1 := blk_cell k5 1
  have e2 := blk_cell k5 2
  clear HS k3 k4 q4 q5 hb5
  go_wp2_with fail
  generalize w5.alloc (.cells #[.string ⟨#[]⟩, .string ⟨#[]⟩, .int .u64 0, .slice none 0 0, .int .u64 0, .int .u64 0] 55) = w6 at *
  refine (HC.out _).mono ?_
  rintro e w7 ⟨rfl, hb7⟩
  have q7 := below_chain q6 q6.size hb7
  have k7 := (q7.block _ (blk_lt k1)).trans k1
  have x0 := blk_cell k7 0
  have x1 := blk_cell k7 1
  have x2 := blk_cell k7 2
  have x3 := blk_cell k7 3
  have x4 := blk_cell k7 4
  have x5 := blk_cell k7 5
  have HH7 := Lib.hid (HH.out _ q7)
  clear HC HH e1 e2 q6 hb7 k5
  go_wp2_with fail
  refine HH7.out.mono ?_
  rintro e w8 ⟨v8, rfl, ho8, hb8⟩
  have hfin := below_chain b2 b2.size (below_chain q7 q7.size hb8)
  obtain ⟨A8, c8, hv8⟩ : ∃ A c, v8 = .slice A 32 c := ho8.form' (tagH_length _ _)
  subst hv8
  go_wp2_with fail
  go_ret
  exact ⟨rfl, hfin⟩

set_option maxHeartbeats 8000000 in
theorem pkeys_law (w : World) (a : ByteArray) (ha : a.size ≤ 10000000) (n : Nat) (hn : n < 18446744073709551616) (fr : TypeId × Nat × Nat) (hk : w.heap[0]? = some (.cells kVals fr.1 fr.2)) :
    Calls Tryd.prog 6 #[.string a, .int .u64 (n : Int)] w fun e w' => e = .returned (.bool true) ∧ Below w.heap.size w w' := by
  have HF := Lib.hid (pfixed_any w fr hk)
  have ha' : a.size ≤ 100000000 := by omega
  have HPCommit := Lib.hid (fun W : World => pCommit_any a n W hn ha')
  have HRCommit := Lib.hid (fun W : World => rpCommit_any a n W hn ha')
  have HPReceipt := Lib.hid (fun W : World => pReceipt_any a n W hn ha')
  have HRReceipt := Lib.hid (fun W : World => rpReceipt_any a n W hn ha')
  have HPAckKey := Lib.hid (fun W : World => pAckKey_any a n W hn ha')
  have HRAckKey := Lib.hid (fun W : World => rpAckKey_any a n W hn ha')
  have HPSent := Lib.hid (fun W : World => pSent_any a n W hn ha')
  have HRSent := Lib.hid (fun W : World => rpSent_any a n W hn ha')
  have HPTold := Lib.hid (fun W : World => pTold_any a n W hn ha')
  have HRTold := Lib.hid (fun W : World => rpTold_any a n W hn ha')
  clear hk ha ha' hn
  generalize kPl wCommit a n = SCommit at *
  generalize kPl wReceipt a n = SReceipt at *
  generalize kPl wAckKey a n = SAckKey at *
  generalize kPl wSent a n = SSent at *
  generalize kPl wTold a n = STold at *
  go_enter Tryd.func6, Tryd.ntmps6
  go_wp2_with fail
  refine HF.out.mono ?_
  rintro e w0 ⟨rfl, q0⟩
  go_wp2_with fail
  refine (HPCommit.out _).mono ?_
  rintro e w1 ⟨rfl, hb1⟩
  have q1 := below_chain q0 q0.size hb1
  go_wp2_with fail
  refine (HRCommit.out _).mono ?_
  rintro e w2 ⟨rfl, hb2⟩
  have q2 := below_chain q1 q1.size hb2
  go_wp2_with fail
  refine (HPReceipt.out _).mono ?_
  rintro e w3 ⟨rfl, hb3⟩
  have q3 := below_chain q2 q2.size hb3
  go_wp2_with fail
  refine (HRReceipt.out _).mono ?_
  rintro e w4 ⟨rfl, hb4⟩
  have q4 := below_chain q3 q3.size hb4
  go_wp2_with fail
  refine (HPAckKey.out _).mono ?_
  rintro e w5 ⟨rfl, hb5⟩
  have q5 := below_chain q4 q4.size hb5
  go_wp2_with fail
  refine (HRAckKey.out _).mono ?_
  rintro e w6 ⟨rfl, hb6⟩
  have q6 := below_chain q5 q5.size hb6
  go_wp2_with fail
  refine (HPSent.out _).mono ?_
  rintro e w7 ⟨rfl, hb7⟩
  have q7 := below_chain q6 q6.size hb7
  go_wp2_with fail
  refine (HRSent.out _).mono ?_
  rintro e w8 ⟨rfl, hb8⟩
  have q8 := below_chain q7 q7.size hb8
  go_wp2_with fail
  refine (HPTold.out _).mono ?_
  rintro e w9 ⟨rfl, hb9⟩
  have q9 := below_chain q8 q8.size hb9
  go_wp2_with fail
  refine (HRTold.out _).mono ?_
  rintro e w10 ⟨rfl, hb10⟩
  have q10 := below_chain q9 q9.size hb10
  go_wp2_with fail
  go_ret
  exact ⟨rfl, q10⟩
end Go.Proofs.YtlkkjnacolmmpaaDoor
