
/- The law's fixed answers about channels, walked. -/
import Derived.Test.YtlkbjhhbpmmamaaGreatDoorChnC0
namespace Go.Proofs.YtlkbjhhbpmmamaaGreatDoor
set_option maxRecDepth 100000
open Go Go.RowKit
set_option linter.unusedVariables false

def sClient0 : ByteArray := ⟨#[99, 108, 105, 101, 110, 116, 45, 48]⟩
def sClient1 : ByteArray := ⟨#[99, 108, 105, 101, 110, 116, 45, 49]⟩
def sConn5 : ByteArray := ⟨#[99, 111, 110, 110, 45, 53]⟩
def sConn0 : ByteArray := ⟨#[99, 111, 110, 110, 45, 48]⟩
def sChan0 : ByteArray := ⟨#[99, 104, 97, 110, 45, 48]⟩
def fixCn : CnV := ⟨3, sClient0, sClient1, sConn5⟩
def fixCnR : List Pr := [(kConn sConn0, cnB fixCn)]
def fixChR : List Pr := beginR fixCnR sConn0 sTransfer sTransfer false sIcs20
theorem fixCh1 : beginE fixCnR sConn0 sTransfer sTransfer false sIcs20 = 0 := by decide +kernel
theorem fixCh2 : beginI fixCnR sConn0 sTransfer sTransfer false sIcs20 = sChan0 := by decide +kernel
theorem fixCh3 : beginE fixChR sConn0 sTransfer sTransfer true sIcs20 = 122 := by decide +kernel
theorem fixCh4 : beginE fixChR sConn0 sHost sTransfer true sIcs20 = 121 := by decide +kernel
theorem beginR_no {R : List Pr} {via po cp : ByteArray} {od : Bool} {ve : ByteArray} (h : beginE R via po cp od ve ≠ 0) : beginR R via po cp od ve = R := by unfold beginR; rw [if_neg h]
theorem fixCh5 : getCh fixChR sChan0 = some ⟨1, false, sTransfer, sTransfer, sConn0, ⟨#[]⟩, sIcs20⟩ := by kernel_rfl
theorem fixCh6 : inStE fixChR sChan0 3 = 111 := by decide +kernel
theorem fixCh7 : numN fixCnR sChan < 10 := by decide +kernel
theorem fixCh8 : numN fixChR sChan < 10 := by decide +kernel
theorem fixKey : kConn sConn0 = ⟨#[105, 98, 99, 47, 99, 111, 110, 110, 47, 99, 111, 110, 110, 45, 48]⟩ := by decide +kernel
theorem fixSmallCn : ∀ p ∈ fixCnR, p.1.size ≤ maxLen := by decide +kernel
/-- one pair, its value in a row of its own -/
theorem rdp_one (w : World) (s : ByteArray) (v : Value) (l : List UInt8) (hr : Rd w w.heap.size v l) : RdP (w.alloc (.cells #[.string s, v] 87)) (w.alloc (.cells #[.string s, v] 87)).heap.size (.slice (some ⟨w.heap.size, 0, none⟩) 1 1) [(s, l)] := by
  have hb : Below w.heap.size w (w.alloc (.cells #[.string s, v] 87)) := (Below.refl _ _).alloc (Nat.le_refl _) _
  have hg := heap_alloc_new w (.cells #[.string s, v] 87)
  refine ⟨_, _, rfl, Nat.le_refl _, by simp [maxLen], fun _ => ⟨w.heap.size, 0, rfl, blk_lt hg, fun j hj => ?_⟩⟩
  rcases j with _ | j
  · exact ⟨blk_cell hg 0, _, blk_cell hg 1, (hr.below hb).more hb.size⟩
  · simp at hj
set_option maxHeartbeats 8000000 in
theorem chfixed_any (w : World) : Calls Tryz.prog 36 #[] w fun e w' => e = .returned (.bool true) ∧ Below w.heap.size w w' := by
  have HB := Lib.hid (cnbytes_any fixCn w (by show 3 < _; decide) (by decide +kernel) (by decide +kernel) (by decide +kernel))
  have HN : Hid (∀ (Z : World) (v : Value) (B : Nat), Own Z B v (cnB fixCn) → Calls Tryz.prog 14 #[.slice (some ⟨Z.heap.size, 0, none⟩) 1 1] (Z.alloc (.cells #[.string (kConn sConn0), v] 87)) fun e w' => ∃ y : Lyr, e = .returned (.tuple #[.pointer (some ⟨y.b, 0, none⟩), .int .i64 0]) ∧ Z.heap.size ≤ y.m ∧ y.n = 1 ∧ At w' y [] fixCnR 0 w' ∧ Below Z.heap.size (Z.alloc (.cells #[.string (kConn sConn0), v] 87)) w') := Lib.hid fun Z v B ho => by
    refine (new_any _ _ fixCnR (rdp_one Z (kConn sConn0) v _ ho.rd) fixSmallCn).mono ?_
    rintro e w' ⟨⟨h, -⟩ | ⟨-, y, he, h1, h2, h3, h4, h5, h6⟩, hb⟩
    · exact absurd h (by decide +kernel)
    · have hs : Z.heap.size ≤ (Z.alloc (.cells #[.string (kConn sConn0), v] 87)).heap.size := ((Below.refl Z.heap.size Z).alloc (Nat.le_refl _) _).size
      exact ⟨y, he, Nat.le_trans hs h2, h3, At.made h6 h4 h5 fixSmallCn, hb.mono hs⟩
  rw [fixKey] at HN
  have h0 : ∀ Z v, Below Z.heap.size Z (Z.alloc (.cells #[.string ⟨#[105, 98, 99, 47, 99, 111, 110, 110, 47, 99, 111, 110, 110, 45, 48]⟩, v] 87)) := fun Z v => (Below.refl _ _).alloc (Nat.le_refl _) _
  unfold CnV.val at HB
  generalize cnB fixCn = LB at *
  unfold fixCn sClient0 sClient1 sConn5 at HB
  dsimp only at HB
  go_enter Tryz.func36, Tryz.ntmps36
  go_wp2_with fail
  refine HB.out.mono ?_
  rintro e w1 ⟨v1, rfl, ho1, hb1⟩
  have HN1 := Lib.hid (HN.out w1 v1 _ ho1)
  have q0 := h0 w1 v1
  obtain ⟨A1, c1, rfl⟩ := ho1.form
  generalize LB.length = n1 at *
  clear HB HN ho1 h0
  go_wp2_with fail
  refine HN1.out.mono ?_
  rintro e w2 ⟨y, rfl, hym, hyn, A2, hb2⟩
  have q2 : Below w.heap.size w w2 := hb1.trans ((q0.mono hb1.size).trans (hb2.mono hb1.size))
  have hym2 : w.heap.size ≤ y.m := Nat.le_trans hb1.size hym
  obtain ⟨yb, ym, yn, yf⟩ := y
  dsimp only at hyn hym2 ⊢
  subst hyn
  have HG1 := Lib.hid (chbegin_any A2 (show 1 + 0 + 5 ≤ maxLen by unfold maxLen; decide) fixCh7 sConn0 sTransfer sTransfer false sIcs20 (by decide +kernel) (by decide +kernel) (by decide +kernel) (by decide +kernel))
  rw [fixCh1, fixCh2, show beginR fixCnR sConn0 sTransfer sTransfer false sIcs20 = fixChR from rfl] at HG1
  have HQ := Lib.hid (And.intro q2 hym2)
  clear HN1 q0 hb1 hb2 hym q2 hym2 A2
  unfold sConn0 sTransfer sIcs20 sChan0 at HG1
  go_wp2_with fail
  refine HG1.out.mono ?_
  rintro e w3 ⟨rfl, A3, -⟩
  have HG2 := Lib.hid (chbegin_any A3 (show 1 + (0 + 5) + 5 ≤ maxLen by unfold maxLen; decide) fixCh8 sConn0 sTransfer sTransfer true sIcs20 (by decide +kernel) (by decide +kernel) (by decide +kernel) (by decide +kernel))
  rw [show beginI fixChR sConn0 sTransfer sTransfer true sIcs20 = ⟨#[]⟩ by unfold beginI; rw [fixCh3]; rfl, beginR_no (by rw [fixCh3]; decide), fixCh3] at HG2
  clear HG1 A3
  unfold sConn0 sTransfer sIcs20 at HG2
  go_wp2_with fail
  refine HG2.out.mono ?_
  rintro e w4 ⟨rfl, A4, -⟩
  have HG3 := Lib.hid (chbegin_any A4 (show 1 + (0 + 5 + 5) + 5 ≤ maxLen by unfold maxLen; decide) fixCh8 sConn0 sHost sTransfer true sIcs20 (by decide +kernel) (by decide +kernel) (by decide +kernel) (by decide +kernel))
  rw [show beginI fixChR sConn0 sHost sTransfer true sIcs20 = ⟨#[]⟩ by unfold beginI; rw [fixCh4]; rfl, beginR_no (by rw [fixCh4]; decide), fixCh4] at HG3
  clear HG2 A4
  unfold sConn0 sTransfer sHost sIcs20 at HG3
  go_wp2_with fail
  refine HG3.out.mono ?_
  rintro e w5 ⟨rfl, A5, -⟩
  have HG4 := Lib.hid (chget_any A5 sChan0 (by decide +kernel))
  rw [fixCh5] at HG4
  unfold chV ChV.val sChan0 sTransfer sConn0 sIcs20 at HG4
  dsimp only at HG4
  have HA5 := Lib.hid A5
  clear HG3 A5
  go_wp2_with fail
  refine HG4.out.mono ?_
  rintro e w6 ⟨rfl, hb6⟩
  have A6 := HA5.out.up (hb6.alloc hb6.size (.cells #[.int .u64 1, .bool false, .string ⟨#[116, 114, 97, 110, 115, 102, 101, 114]⟩, .string ⟨#[116, 114, 97, 110, 115, 102, 101, 114]⟩, .string ⟨#[99, 111, 110, 110, 45, 48]⟩, .string ⟨#[]⟩, .string ⟨#[105, 99, 115, 50, 48]⟩] 82))
  have HG5 := Lib.hid (chclose_no A6 sChan0 (by decide +kernel) (by rw [fixCh6]; decide))
  rw [fixCh6] at HG5
  unfold sChan0 at HG5
  have HA6 := Lib.hid A6
  clear HG4 HA5 A6 hb6
  go_wp2_with fail
  refine HG5.out.mono ?_
  rintro e w7 ⟨rfl, hb7⟩
  have A7 := HA6.out.up hb7
  have hq := HQ.out.1.trans (A7.below HQ.out.2 HQ.out.1.size)
  go_wp2_with fail
  go_ret
  exact ⟨rfl, hq⟩
end Go.Proofs.YtlkbjhhbpmmamaaGreatDoor
