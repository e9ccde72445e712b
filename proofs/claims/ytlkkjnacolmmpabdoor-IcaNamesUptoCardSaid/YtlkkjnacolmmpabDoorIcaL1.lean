
/- The law: an owner's account, and the channel that was asked for last, are the document's, over any store. -/
import Derived.Test.YtlkkjnacolmmpabDoorIcaA
import Derived.Test.YtlkkjnacolmmpabDoorSto2
namespace Go.Proofs.YtlkkjnacolmmpabDoor
set_option maxRecDepth 100000
open Go Go.RowKit
set_option linter.unusedVariables false

def sAnn : ByteArray := ⟨#[97, 110, 110]⟩
def sBob : ByteArray := ⟨#[98, 111, 98]⟩
def fixIcaR : List Pr := regR fixCnR sAnn sConn0
theorem fixIca1 : regE fixCnR sAnn sConn0 = 0 := by decide +kernel
theorem fixIca2 : regI fixCnR sAnn sConn0 = sChan0 := by decide +kernel
theorem fixIca3 : regE fixIcaR sAnn sConn0 = 111 := by decide +kernel
theorem fixIca4 : getCh fixIcaR sChan0 = some ⟨1, true, sControl, sHost, sConn0, ⟨#[]⟩, sAnn⟩ := by kernel_rfl
theorem fixIca5 : getL fixIcaR (kAct sConn0 sAnn) = some (strBytes sChan0) := by kernel_rfl
theorem fixIca6 : kIca sConn0 sAnn = ⟨#[105, 99, 97, 46, 99, 111, 110, 110, 45, 48, 46, 97, 110, 110]⟩ := by decide +kernel
theorem fixIca7 : numN fixIcaR sChan < 10 := by decide +kernel
theorem fixIca8 : getL fixCnR (kAct sConn0 sAnn) = none := by kernel_rfl
theorem sAnn_ne : ¬ sAnn = sBob := by decide +kernel
set_option maxHeartbeats 8000000 in
theorem icafixed_any (w : World) : Calls Tryd.prog 6 #[] w fun e w' => e = .returned (.bool true) ∧ Below w.heap.size w w' := by
  have HB := Lib.hid (cnbytes_any fixCn w (by show 3 < _; decide) (by decide +kernel) (by decide +kernel) (by decide +kernel))
  have HN : Hid (∀ (Z : World) (v : Value) (B : Nat), Own Z B v (cnB fixCn) → Calls Tryd.prog 4 #[.slice (some ⟨Z.heap.size, 0, none⟩) 1 1] (Z.alloc (.cells #[.string (kConn sConn0), v] 39)) fun e w' => ∃ y : Lyr, e = .returned (.tuple #[.pointer (some ⟨y.b, 0, none⟩), .int .i64 0]) ∧ Z.heap.size ≤ y.m ∧ y.n = 1 ∧ At w' y [] fixCnR 0 w' ∧ Below Z.heap.size (Z.alloc (.cells #[.string (kConn sConn0), v] 39)) w') := Lib.hid fun Z v B ho => by
    refine (new_any _ _ fixCnR (rdp_one Z (kConn sConn0) v _ ho.rd) fixSmallCn).mono ?_
    rintro e w' ⟨⟨h, -⟩ | ⟨-, y, he, h1, h2, h3, h4, h5, h6⟩, hb⟩
    · exact absurd h (by decide +kernel)
    · have hs : Z.heap.size ≤ (Z.alloc (.cells #[.string (kConn sConn0), v] 39)).heap.size := ((Below.refl Z.heap.size Z).alloc (Nat.le_refl _) _).size
      exact ⟨y, he, Nat.le_trans hs h2, h3, At.made h6 h4 h5 fixSmallCn, hb.mono hs⟩
  rw [fixKey] at HN
  have h0 : ∀ Z v, Below Z.heap.size Z (Z.alloc (.cells #[.string ⟨#[105, 98, 99, 47, 99, 111, 110, 110, 47, 99, 111, 110, 110, 45, 48]⟩, v] 39)) := fun Z v => (Below.refl _ _).alloc (Nat.le_refl _) _
  have HAD := Lib.hid (fun Z : World => icaaddr_any sConn0 sAnn Z (by decide +kernel) (by decide +kernel))
  rw [fixIca6] at HAD
  unfold sConn0 sAnn at HAD
  unfold CnV.val at HB
  generalize cnB fixCn = LB at *
  unfold fixCn sClient0 sClient1 sConn5 at HB
  dsimp only at HB
  go_enter Tryd.func6, Tryd.ntmps6
  go_wp2_with fail
  refine HB.out.mono ?_
  rintro e w1 ⟨v1, rfl, ho1, hb1⟩
  have HN1 := Lib.hid (HN.out w1 v1 _ ho1)
  have q0 := h0 w1 v1
  obtain ⟨A1, c1, rfl⟩ := ho1.form
  generalize LB.length = n1 at *
  clear HB HN ho1 h0
  go_wp2_with fail
  refine HN1.out.mono ?_
  rintro e w2 ⟨y, rfl, hym, hyn, A2, hb2⟩
  have q2 : Below w.heap.size w w2 := hb1.trans ((q0.mono hb1.size).trans (hb2.mono hb1.size))
  have hym2 : w.heap.size ≤ y.m := Nat.le_trans hb1.size hym
  obtain ⟨yb, ym, yn, yf⟩ := y
  dsimp only at hyn hym2 ⊢
  subst hyn
  have HG1 := Lib.hid (icareg_any A2 (show 1 + 0 + 6 ≤ maxLen by unfold maxLen; decide) fixCh7 sAnn sConn0 (by decide +kernel) (by decide +kernel) (fun v e => by rw [fixIca8] at e; cases e))
  rw [fixIca1, fixIca2, show regR fixCnR sAnn sConn0 = fixIcaR from rfl] at HG1
  have HQ := Lib.hid (And.intro q2 hym2)
  clear HN1 q0 hb1 hb2 hym q2 hym2 A2
  unfold sConn0 sAnn sChan0 at HG1
  go_wp2_with fail
  refine HG1.out.mono ?_
  rintro e w3 ⟨rfl, A3, -⟩
  have HG2 := Lib.hid (icareg_any A3 (show 1 + (0 + 6) + 6 ≤ maxLen by unfold maxLen; decide) fixIca7 sAnn sConn0 (by decide +kernel) (by decide +kernel) (fun v e => by rw [fixIca5] at e; injection e with e; rw [← e]; decide +kernel))
  rw [show regI fixIcaR sAnn sConn0 = ⟨#[]⟩ by unfold regI; rw [fixIca3]; rfl, show regR fixIcaR sAnn sConn0 = fixIcaR by unfold regR; rw [fixIca3]; rfl, fixIca3] at HG2
  clear HG1 A3
  unfold sConn0 sAnn at HG2
  go_wp2_with fail
  refine HG2.out.mono ?_
  rintro e w4 ⟨rfl, A4, -⟩
  have HG3 := Lib.hid (icaexec_owner A4 sBob sChan0 (by decide +kernel) _ fixIca4 rfl sAnn_ne)
  have HA4 := Lib.hid A4
  clear HG2 A4
  unfold sBob sChan0 at HG3
  go_wp2_with fail
  refine HG3.out.mono ?_
  rintro e w5 ⟨rfl, hb5⟩
  have A5 := HA4.out.up (hb5.alloc hb5.size (.cells #[.string ⟨#[]⟩, .string ⟨#[]⟩, .int .u64 0, .slice none 0 0, .int .u64 0, .int .u64 0] 52))
  have HG4 := Lib.hid (icaactive_any A5 sConn0 sAnn (by decide +kernel) (by decide +kernel))
  rw [fixIca5, show (⟨((some (strBytes sChan0)).getD []).toArray⟩ : ByteArray) = sChan0 from rfl] at HG4
  dsimp only [Option.isSome_some] at HG4
  have HA5 := Lib.hid A5
  clear HG3 HA4 A5 hb5
  unfold sConn0 sAnn sChan0 at HG4
  go_wp2_with fail
  refine HG4.out.mono ?_
  rintro e w6 ⟨rfl, hb6⟩
  have A6 := HA5.out.up hb6
  have hq := HQ.out.1.trans (A6.below HQ.out.2 HQ.out.1.size)
  clear HG4 HA5 A6 hb6
  go_wp2_with fail
  refine (HAD.out _).mono ?_
  rintro e w7 ⟨rfl, rfl⟩
  go_wp2_with fail
  go_ret
  exact ⟨rfl, hq⟩
set_option maxHeartbeats 8000000 in
theorem icanames_law (w : World) (v : Value) (ps : List Pr) (hps : RdP w w.heap.size v ps) (hnl : ∀ p ∈ ps, p.1.size ≤ maxLen) (hvl : ∀ p ∈ ps, p.2.length ≤ 2000000) (hlen : ps.length ≤ 2000000) (a o : ByteArray) (ha : a.size ≤ 100000000) (ho : o.size ≤ 100000000) :
    Calls Tryd.prog 3 #[v, .string a, .string o] w fun e w' => e = .returned (.bool true) ∧ Below w.heap.size w w' := by
  have HN := Lib.hid (new_any w v ps hps hnl)
  have HR := Lib.hid (fun (W : World) (hb : Below w.heap.size w W) => rnew_doc W v ps (hps.keptX (Kept.of_belowX hb)) hnl hvl hlen)
  have HV := Lib.hid (And.intro hvl hlen)
  have HK1 := Lib.hid (fun Z : World => icaaddr_any a o Z ha ho)
  have HK2 := Lib.hid (fun Z : World => ricaaddr_any a o Z ha ho)
  generalize kIca a o = kk at *
  have hkk : (kk.toList == kk.toList) = true := beq_self_eq_true _
  obtain ⟨A, c, rfl⟩ : ∃ A c, v = .slice A ps.length c := by obtain ⟨A, c, h, _⟩ := hps; exact ⟨A, c, h⟩
  clear hps hvl hlen
  go_enter Tryd.func3, Tryd.ntmps3
  go_wp2_with fail
  refine HN.out.mono ?_
  rintro e w1 ⟨⟨hor, rfl⟩ | ⟨hor, y, rfl, hyb, hym, hyn, hly, hri, hp1⟩, hb1⟩
  · have HO := Lib.hid hor
    clear hor
    go_wp2_with fail
    refine (HR.out _ hb1).mono ?_
    rintro e w2 ⟨⟨-, rfl⟩ | ⟨h2, -⟩, hb2⟩
    rotate_left
    · rw [HO.out] at h2; cases h2
    have hq2 := below_chain hb1 hb1.size hb2
    go_wp2_with fail
    refine (icafixed_any _).mono ?_
    rintro e w3 ⟨rfl, hb3⟩
    have hq3 := below_chain hq2 hq2.size hb3
    go_wp2_with fail
    refine (HK1.out _).mono ?_
    rintro e w4 ⟨rfl, rfl⟩
    go_wp2_with fail
    refine (HK2.out _).mono ?_
    rintro e w4 ⟨rfl, rfl⟩
    go_wp2_with fail
    refine (icafixed_any _).mono ?_
    rintro e w4 ⟨rfl, hb4⟩
    have hq4 := below_chain hq3 hq3.size hb4
    go_wp2_with fail
    go_ret
    exact ⟨rfl, hq4⟩
  · have HO := Lib.hid hor
    have A1 := At.made hp1 hly hri hnl
    obtain ⟨yb, ym, yn, yf⟩ := y
    dsimp only at ⊢
    clear hor hyb hym hyn hly hri hp1 HN
    go_wp2_with fail
    refine (HR.out _ hb1).mono ?_
    rintro e w2 ⟨⟨h2, -⟩ | ⟨-, b, rfl, hbb, hds⟩, hb2⟩
    · rw [HO.out] at h2; cases h2
    have A2 := A1.up hb2
    have D2 : RGet w2 b ps := RGet.of hds (by have := HV.out.2; omega) HV.out.1
    have hq2 := below_chain hb1 hb1.size hb2
    clear A1 hb1 hb2 hbb hds HR HO
    go_wp2_with fail
    refine (icafixed_any _).mono ?_
    rintro e w3 ⟨rfl, hb3⟩
    have A3 := A2.up hb3
    have D3 := D2.up hb3
    have hq3 := below_chain hq2 hq2.size hb3
    have HG := Lib.hid (icaactive_any A3 a o ha ho)
    have HG' := Lib.hid (fun (W : World) (hb : Below w3.heap.size w3 W) => ricaactive_any (D3.up hb) a o ha ho)
    generalize (getL ps (kAct a o)).isSome = ok at *
    generalize (⟨((getL ps (kAct a o)).getD []).toArray⟩ : ByteArray) = S at *
    have hss : (S.toList == S.toList) = true := beq_self_eq_true _
    clear hb3 A2 D2 A3 D3
    go_wp2_with fail
    refine (HK1.out _).mono ?_
    rintro e w4 ⟨rfl, rfl⟩
    go_wp2_with fail
    refine (HK2.out _).mono ?_
    rintro e w4 ⟨rfl, rfl⟩
    clear HK1 HK2
    go_wp2_with fail
    refine HG.out.mono ?_
    rintro e w4 ⟨rfl, hb4⟩
    have HG5 := Lib.hid (HG'.out _ hb4)
    clear HG HG'
    go_wp2_with fail
    refine HG5.out.mono ?_
    rintro e w6 ⟨rfl, hb6⟩
    have hq7 := below_chain hq3 hq3.size (below_chain hb4 hb4.size hb6)
    clear HG5 hb4 hb6
    cases ok <;>
      (go_wp2_with fail
       go_ret
       exact ⟨rfl, hq7⟩)
end Go.Proofs.YtlkkjnacolmmpabDoor
