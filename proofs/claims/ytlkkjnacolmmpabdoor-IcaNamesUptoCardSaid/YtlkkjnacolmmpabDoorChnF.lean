
/- The law's fixed answers about channels, walked. -/
import Derived.Test.YtlkkjnacolmmpabDoorChnC0
namespace Go.Proofs.YtlkkjnacolmmpabDoor
set_option maxRecDepth 100000
open Go Go.RowKit
set_option linter.unusedVariables false

def sClient0 : ByteArray := ⟨#[99, 108, 105, 101, 110, 116, 45, 48]⟩
def sClient1 : ByteArray := ⟨#[99, 108, 105, 101, 110, 116, 45, 49]⟩
def sConn5 : ByteArray := ⟨#[99, 111, 110, 110, 45, 53]⟩
def sConn0 : ByteArray := ⟨#[99, 111, 110, 110, 45, 48]⟩
def sChan0 : ByteArray := ⟨#[99, 104, 97, 110, 45, 48]⟩
def fixCn : CnV := ⟨3, sClient0, sClient1, sConn5⟩
def fixCnR : List Pr := [(kConn sConn0, cnB fixCn)]
def fixChR : List Pr := beginR fixCnR sConn0 sTransfer sTransfer false sIcs20
theorem fixCh1 : beginE fixCnR sConn0 sTransfer sTransfer false sIcs20 = 0 := by decide +kernel
theorem fixCh2 : beginI fixCnR sConn0 sTransfer sTransfer false sIcs20 = sChan0 := by decide +kernel
theorem fixCh3 : beginE fixChR sConn0 sTransfer sTransfer true sIcs20 = 122 := by decide +kernel
theorem fixCh4 : beginE fixChR sConn0 sHost sTransfer true sIcs20 = 121 := by decide +kernel
theorem beginR_no {R : List Pr} {via po cp : ByteArray} {od : Bool} {ve : ByteArray} (h : beginE R via po cp od ve ≠ 0) : beginR R via po cp od ve = R := by unfold beginR; rw [if_neg h]
theorem fixCh5 : getCh fixChR sChan0 = some ⟨1, false, sTransfer, sTransfer, sConn0, ⟨#[]⟩, sIcs20⟩ := by kernel_rfl
theorem fixCh6 : inStE fixChR sChan0 3 = 111 := by decide +kernel
theorem fixCh7 : numN fixCnR sChan < 10 := by decide +kernel
theorem fixCh8 : numN fixChR sChan < 10 := by decide +kernel
theorem fixKey : kConn sConn0 = ⟨#[105, 98, 99, 47, 99, 111, 110, 110, 47, 99, 111, 110, 110, 45, 48]⟩ := by decide +kernel
theorem fixSmallCn : ∀ p ∈ fixCnR, p.1.size ≤ maxLen := by decide +kernel
/-- one pair, its value in a row of its own -/
theorem rdp_one (w : World) (s : ByteArray) (v : Value) (l : List UInt8) (hr : Rd w w.heap.size v l) : RdP (w.alloc (.cells #[.string s, v] 39)) (w.alloc (.cells #[.string s, v] 39)).heap.size (.slice (some ⟨w.heap.size, 0, none⟩) 1 1) [(s, l)] := by
  have hb : Below w.heap.size w (w.alloc (.cells #[.string s, v] 39)) := (Below.refl _ _).alloc (Nat.le_refl _) _
  have hg := heap_alloc_new w (.cells #[.string s, v] 39)
  refine ⟨_, _, rfl, Nat.le_refl _, by simp [maxLen], fun _ => ⟨w.heap.size, 0, rfl, blk_lt hg, fun j hj => ?_⟩⟩
  rcases j with _ | j
  · exact ⟨blk_cell hg 0, _, blk_cell hg 1, (hr.below hb).more hb.size⟩
  · simp at hj
end Go.Proofs.YtlkkjnacolmmpabDoor
