/- Texts joined: TxN, TxS, WireDoc0, RShaG0, SignA, SignP, SignB, SignC, SignD, SignE. -/
import Derived.Test.YtniclaapiabmdaaGreatDoorM15
import Derived.Test.YtniclaapiabmdaaGreatDoorM11
import Derived.Test.YtniclaapiabmdaaGreatDoorM01
import Derived.Laws.IdiomStrings
import Derived.Test.YtniclaapiabmdaaGreatDoorM02
import Derived.Test.YtniclaapiabmdaaGreatDoorM03
import Derived.LoopTactic
import Derived.Test.YtniclaapiabmdaaGreatDoorM04
import Derived.Deep.RegionHeldLaw
namespace Go.Proofs.YtniclaapiabmdaaGreatDoor
set_option maxRecDepth 100000
open Go Go.RowKit
set_option linter.unusedVariables false

theorem TxV.rd.up {w w' : World} {t : TxV} (h : t.rd w) (hb : Below w.heap.size w w') : t.rd w' := by
  refine ⟨h.sg, h.seq, h.gas, h.fee, ?_, fun m hm => (h.msr m hm).keptM (kept_belowM hb), h.sig.up (Nat.le_refl _) hb, h.ml⟩
  obtain ⟨A, c, e, hp⟩ := h.ms
  refine ⟨A, c, e, fun h0 => ?_⟩
  obtain ⟨b, o, h1, h2, h3⟩ := hp h0
  exact ⟨b, o, h1, Nat.lt_of_lt_of_le h2 hb.size, fun j hj i u hu => (hb.cell (p := ⟨b, o + j * 62 + i, none⟩) h2).trans (h3 j hj i u hu)⟩
theorem fitsE_ok {t : TxV} (h : fitsE t = 0) : t.ms.length ≤ 8 ∧ (∀ m ∈ t.ms, m.fine) ∧ t.sg.size ≤ 65535 ∧ t.sig.length ≤ 65535 := by
  unfold fitsE at h
  split at h
  · exact absurd h (by decide)
  · rename_i h8
    split at h
    · rename_i h1
      split at h
      · rename_i h2
        split at h
        · rename_i h3
          rw [List.all_eq_true] at h1 h2
          refine ⟨by omega, fun m hm => ?_, h3.1, h3.2⟩
          have k := h2 m hm
          rw [Bool.and_eq_true] at k
          exact MsgV.fine_of (h1 m hm) k.1 k.2
        · exact absurd h (by decide)
      · exact absurd h (by decide)
    · exact absurd h (by decide)
theorem encE_22 {t : TxV} (h : fitsE t = 0) (k : Nat) (hk : k < t.ms.length) (hb : ¬ (encM t.ms[k]).length ≤ 65535) : encE t = 22 := by
  unfold encE
  rw [if_pos h, if_neg]
  intro e
  rw [List.all_eq_true] at e
  have := e _ (List.getElem_mem hk)
  simp only [decide_eq_true_eq] at this
  exact hb this
theorem encE_0 {t : TxV} (h : fitsE t = 0) (hb : ∀ k (hk : k < t.ms.length), (encM t.ms[k]).length ≤ 65535) : encE t = 0 := by
  unfold encE
  rw [if_pos h, if_pos]
  rw [List.all_eq_true]
  intro x hx
  obtain ⟨j, hj, rfl⟩ := List.getElem_of_mem hx
  simpa using hb j hj
set_option maxRecDepth 100000 in
set_option maxHeartbeats 40000000 in
theorem encode_any (w : World) (t : TxV) (hr : t.rd w) :
    Calls Tryz.prog 76 #[.agg t.cells] w fun e w' => ∃ v, e = .returned (.tuple #[v, .int .i64 (encE t)]) ∧ Below w.heap.size w w' ∧ (encE t = 0 → Own w' w.heap.size v (encTx t)) ∧ (encE t ≠ 0 → v = .slice none 0 0) := by
  obtain ⟨Am, cm, hvm⟩ : ∃ A c, t.vms = .slice A t.ms.length c := by obtain ⟨A, c, e, _⟩ := hr.ms; exact ⟨A, c, e⟩
  obtain ⟨As, cs, hvs⟩ := hr.sig.form
  have hms := hr.ms
  rw [hvm] at hms
  have HMS := Lib.hid (fun (Z : World) (hz : Below w.heap.size w Z) => msgs_range hms hz)
  have HMR := Lib.hid (fun (Z : World) (hz : Below w.heap.size w Z) (k : Nat) (hk : k < t.ms.length) => (hr.msr _ (List.getElem_mem hk)).keptM (kept_belowM hz))
  have HMR0 := Lib.hid hr.msr
  have hcl : t.cells = #[.string t.sg, .int .u64 (t.seq : Int), .int .u64 (t.gas : Int), .int .u64 (t.fee.a : Int), .int .u64 (t.fee.b : Int), .int .u64 (t.fee.c : Int), .int .u64 (t.fee.d : Int), .slice Am t.ms.length cm, .slice As t.sig.length cs] := by rw [TxV.cells, hvm, hvs]
  have HR := Lib.hid hr
  obtain ⟨n, hnn⟩ : ∃ n, n = t.ms.length := ⟨_, rfl⟩
  have ha0 : Below w.heap.size w (w.alloc (.cells #[.string t.sg, .int .u64 (t.seq : Int), .int .u64 (t.gas : Int), .int .u64 (t.fee.a : Int), .int .u64 (t.fee.b : Int), .int .u64 (t.fee.c : Int), .int .u64 (t.fee.d : Int), .slice Am t.ms.length cm, .slice As t.sig.length cs] 29)) := (Below.refl _ _).alloc (Nat.le_refl _) _
  have hbox := heap_alloc_new w (.cells #[.string t.sg, .int .u64 (t.seq : Int), .int .u64 (t.gas : Int), .int .u64 (t.fee.a : Int), .int .u64 (t.fee.b : Int), .int .u64 (t.fee.c : Int), .int .u64 (t.fee.d : Int), .slice Am t.ms.length cm, .slice As t.sig.length cs] 29)
  have hsz1 : (w.alloc (.cells #[.string t.sg, .int .u64 (t.seq : Int), .int .u64 (t.gas : Int), .int .u64 (t.fee.a : Int), .int .u64 (t.fee.b : Int), .int .u64 (t.fee.c : Int), .int .u64 (t.fee.d : Int), .slice Am t.ms.length cm, .slice As t.sig.length cs] 29)).heap.size = w.heap.size + 1 := by simp
  have hF := fits_tx _ t (hr.up ha0)
  rw [hcl] at hF ⊢
  obtain ⟨fe, hfe⟩ : ∃ fe, fe = fitsE t := ⟨_, rfl⟩
  rw [← hfe] at hF
  have HFE := Lib.hid hfe
  obtain ⟨rs, hrs⟩ : ∃ rs, rs = encE t := ⟨_, rfl⟩
  rw [← hrs]
  have HRS := Lib.hid hrs
  have HSG := Lib.hid hvs
  rw [← hnn] at hbox ha0 hsz1 hF ⊢
  have HNN := Lib.hid hnn
  generalize hW1 : w.alloc (.cells #[.string t.sg, .int .u64 (t.seq : Int), .int .u64 (t.gas : Int), .int .u64 (t.fee.a : Int), .int .u64 (t.fee.b : Int), .int .u64 (t.fee.c : Int), .int .u64 (t.fee.d : Int), .slice Am n cm, .slice As t.sig.length cs] 29) = W1 at *
  have HC : Hid (∀ Z, Below W1.heap.size W1 Z → ∀ (i : Nat) (u : Value), (#[.string t.sg, .int .u64 (t.seq : Int), .int .u64 (t.gas : Int), .int .u64 (t.fee.a : Int), .int .u64 (t.fee.b : Int), .int .u64 (t.fee.c : Int), .int .u64 (t.fee.d : Int), .slice Am n cm, .slice As t.sig.length cs] : Array Value)[i]? = some u → Z.cell? ⟨w.heap.size, i, none⟩ = some u) := Lib.hid fun Z hz i u hu => (hz.cell (p := ⟨_, i, none⟩) (by rw [hsz1]; exact Nat.lt_succ_self _)).trans ((blk_cell hbox i).trans hu)
  have HOLD : Hid (∀ Z, Below W1.heap.size W1 Z → Below w.heap.size w Z) := Lib.hid fun Z hz => ha0.trans (hz.mono (by rw [hsz1]; exact Nat.le_succ _))
  have HS1 : Hid (w.heap.size < W1.heap.size) := Lib.hid (by rw [hsz1]; exact Nat.lt_succ_self _)
  generalize hg1 : w.heap.size = g0 at *
  have HGG := Lib.hid hg1
  have c0 := HC.out _ (Below.refl _ _) 0 (.string t.sg) rfl
  have c1 := HC.out _ (Below.refl _ _) 1 (.int .u64 (t.seq : Int)) rfl
  have c2 := HC.out _ (Below.refl _ _) 2 (.int .u64 (t.gas : Int)) rfl
  have c3 := HC.out _ (Below.refl _ _) 3 (.int .u64 (t.fee.a : Int)) rfl
  have c4 := HC.out _ (Below.refl _ _) 4 (.int .u64 (t.fee.b : Int)) rfl
  have c5 := HC.out _ (Below.refl _ _) 5 (.int .u64 (t.fee.c : Int)) rfl
  have c6 := HC.out _ (Below.refl _ _) 6 (.int .u64 (t.fee.d : Int)) rfl
  have c7 := HC.out _ (Below.refl _ _) 7 (.slice Am n cm) rfl
  have c8 := HC.out _ (Below.refl _ _) 8 (.slice As t.sig.length cs) rfl
  have HFT := Lib.hid hF
  clear hF hbox ha0 hsz1 hms hr hvm hvs hcl hnn hrs hfe
  go_enter Tryz.func76, Tryz.ntmps76
  go_wp2_with fail
  try rw [hW1]
  try rw [hg1]
  refine HFT.out.mono ?_
  rintro e w2 ⟨rfl, hb2⟩
  clear HFT hW1 c0 c1 c2 c3 c4 c5 c6 c7 c8 hg1
  by_cases hf0 : fe = 0
  case neg =>
    have f1 : (fe != 0) = true := by simpa using hf0
    have hres := Lib.hid (show rs = fe by rw [HRS.out, HFE.out]; unfold encE; rw [if_neg (by rw [← HFE.out]; exact hf0)])
    have HFN := Lib.hid (And.intro (HOLD.out _ hb2) hf0)
    clear hf0
    go_wp2_with fail
    go_ret2
    refine ⟨.slice none 0 0, ?_, HFN.out.1, fun h => absurd (hres.out.symm.trans h) HFN.out.2, fun _ => rfl⟩
    rw [hres.out]
    rfl
  subst hf0
  have HFT : Hid (fitsE t = 0) := Lib.hid HFE.out.symm
  have HOK := Lib.hid (fitsE_ok HFT.out)
  have HB2 := Lib.hid hb2
  obtain ⟨X0, hXn⟩ : ∃ X : World, X = w2.alloc (.cells #[.slice none 0 0] 158) := ⟨_, rfl⟩
  have hX := WrX.new w2
  rw [← hXn] at hX
  have hbx : Below w2.heap.size w2 X0 := by rw [hXn]; exact (Below.refl _ _).alloc (Nat.le_refl _) _
  have HGW : Hid (W1.heap.size ≤ w2.heap.size ∧ Below W1.heap.size W1 X0) := Lib.hid ⟨hb2.size, below_chain hb2 hb2.size hbx⟩
  generalize hg : w2.heap.size = g at *
  generalize hB : g + 1 = B at *
  obtain ⟨F, hFF⟩ : ∃ F : Nat → Prop, F = fun k => k = g := ⟨_, rfl⟩
  rw [← hFF] at hX
  have HCX : Hid (∀ Z L, WrX F X0 Z B g L → Below W1.heap.size W1 Z) := Lib.hid fun Z L hz => HGW.out.2.trans (hz.below.mono HGW.out.1)
  have HBB : Hid (w.heap.size ≤ g ∧ g0 ≤ B) := Lib.hid (by have := HGW.out.1; have := HS1.out; have := HGG.out; omega)
  obtain ⟨M0, hM0⟩ : ∃ M : List UInt8, M = [] := ⟨_, rfl⟩
  rw [← hM0] at hX
  have HM0 := Lib.hid hM0
  have HL0 : Hid (M0.length ≤ 0) := Lib.hid (by rw [hM0]; exact Nat.le_refl _)
  have hX0 := hX
  clear hbx hb2 hFF hM0 hX
  have f0 : (((0 : Int) != 0) = true) = False := by simp
  go_upto_region 5 with fail
  try rw [← hXn]
  try rw [hg]
  clear hXn f0 hg hB
  have c0 := HC.out _ (HCX.out _ _ hX0) 0 (.string t.sg) rfl
  have D := Lib.hid (wxt_any hX0 t.sg HR.out.sg (by have := HL0.out; omega))
  clear hX0
  go_wp2_with fail
  refine D.out.mono ?_
  rintro e y1 ⟨rfl, Y⟩
  obtain ⟨M1, hM⟩ : ∃ M1, M1 = M0 ++ encW t.sg := ⟨_, rfl⟩
  have hX1 : WrX F X0 y1 B g M1 := by rw [hM]; exact Y
  have HL1 : Hid (M1.length ≤ 65539) := Lib.hid (by rw [hM, List.length_append]; have := HL0.out; have := encW_len t.sg; omega)
  have HM1 := Lib.hid hM
  clear hM Y D c0
  have c1 := HC.out _ (HCX.out _ _ hX1) 1 (.int .u64 (t.seq : Int)) rfl
  have D := Lib.hid (wxn_any hX1 t.seq HR.out.seq (by have := HL1.out; omega))
  clear hX1
  go_wp2_with fail
  refine D.out.mono ?_
  rintro e y2 ⟨rfl, Y⟩
  obtain ⟨M2, hM⟩ : ∃ M2, M2 = M1 ++ be t.seq 8 := ⟨_, rfl⟩
  have hX2 : WrX F X0 y2 B g M2 := by rw [hM]; exact Y
  have HL2 : Hid (M2.length ≤ 65547) := Lib.hid (by rw [hM, List.length_append]; have := HL1.out; have := be_length t.seq 8; omega)
  have HM2 := Lib.hid hM
  clear hM Y D c1
  have c2 := HC.out _ (HCX.out _ _ hX2) 2 (.int .u64 (t.gas : Int)) rfl
  have D := Lib.hid (wxn_any hX2 t.gas HR.out.gas (by have := HL2.out; omega))
  clear hX2
  go_wp2_with fail
  refine D.out.mono ?_
  rintro e y3 ⟨rfl, Y⟩
  obtain ⟨M3, hM⟩ : ∃ M3, M3 = M2 ++ be t.gas 8 := ⟨_, rfl⟩
  have hX3 : WrX F X0 y3 B g M3 := by rw [hM]; exact Y
  have HL3 : Hid (M3.length ≤ 65555) := Lib.hid (by rw [hM, List.length_append]; have := HL2.out; have := be_length t.gas 8; omega)
  have HM3 := Lib.hid hM
  clear hM Y D c2
  have c3 := HC.out _ (HCX.out _ _ hX3) 3 (.int .u64 (t.fee.a : Int)) rfl
  have c4 := HC.out _ (HCX.out _ _ hX3) 4 (.int .u64 (t.fee.b : Int)) rfl
  have c5 := HC.out _ (HCX.out _ _ hX3) 5 (.int .u64 (t.fee.c : Int)) rfl
  have c6 := HC.out _ (HCX.out _ _ hX3) 6 (.int .u64 (t.fee.d : Int)) rfl
  have D := Lib.hid (wxu_any hX3 t.fee HR.out.fee (by have := HL3.out; omega))
  clear hX3
  go_wp2_with fail
  refine D.out.mono ?_
  rintro e y4 ⟨rfl, Y⟩
  obtain ⟨M4, hM⟩ : ∃ M4, M4 = M3 ++ encU t.fee := ⟨_, rfl⟩
  have hX4 : WrX F X0 y4 B g M4 := by rw [hM]; exact Y
  have HL4 : Hid (M4.length ≤ 131094) := Lib.hid (by rw [hM, List.length_append]; have := HL3.out; have := encU_len t.fee; omega)
  have HM4 := Lib.hid hM
  clear hM Y D c3 c4 c5 c6
  have hn8 : n ≤ 8 := by have := HOK.out.1; have := HNN.out; omega
  have hw0 := u64_nat n (by omega)
  have c7 := HC.out _ (HCX.out _ _ hX4) 7 (.slice Am n cm) rfl
  have D := Lib.hid (wxn_any hX4 n (by omega) (by have := HL4.out; omega))
  clear hX4
  go_wp2_with fail
  refine D.out.mono ?_
  rintro e y5 ⟨rfl, Y⟩
  obtain ⟨M5, hM⟩ : ∃ M5, M5 = M4 ++ be n 8 := ⟨_, rfl⟩
  have hX5 : WrX F X0 y5 B g M5 := by rw [hM]; exact Y
  have HL5 : Hid (M5.length ≤ 131102) := Lib.hid (by rw [hM, List.length_append]; have := HL4.out; have := be_length n 8; omega)
  have HM5 := Lib.hid hM
  clear hM Y D c7
  clear hw0
  have c7 := HC.out _ (HCX.out _ _ hX5) 7 (.slice Am n cm) rfl
  have HX0 := Lib.hid hX5
  clear hX5
  have HLN : Hid (∀ k, ((t.ms.take k).map (fun m => encB (encM m))).flatten.length ≤ 524312) := Lib.hid fun k => by
    have := flatX_len (fun m => encB (encM m)) 65539 (t.ms.take k) fun x _ => encB_lenW _
    have h2 : (t.ms.take k).length ≤ 8 := by rw [List.length_take]; have := HOK.out.1; omega
    omega
  have HNX := Lib.hid (fun (k : Nat) (hk : k < t.ms.length) => flatX_take (fun m => encB (encM m)) t.ms k hk)
  go_upto_block 0 with fail
  clear c7
  go_cut [] (fun wx => Hid (WrX F X0 wx B g (M5 ++ (t.ms.map (fun m => encB (encM m))).flatten) ∧ (∀ k (hk : k < t.ms.length), (encM t.ms[k]).length ≤ 65535)))
  case first =>
    go_wp2_with fail
    go_loopw [34] (fun i wr => ∃ k : Nat, k ≤ n ∧ i = .int .i64 (k : Int) ∧ Hid (WrX F X0 wr B g (M5 ++ ((t.ms.take k).map (fun m => encB (encM m))).flatten) ∧ ∀ j (h : j < t.ms.length), j < k → (encM t.ms[j]).length ≤ 65535))
      (fun i _ => n - (intOf i).toNat)
    case atStart => exact ⟨0, Nat.zero_le _, rfl, Lib.hid ⟨by simpa using HX0.out, fun j _ h => absurd h (by omega)⟩⟩
    case round =>
      clear HX0
      obtain ⟨k, hk, rfl, HX⟩ := hrel
      by_cases hlt : k < n
      · have hkl : k < t.ms.length := by have := HNN.out; omega
        obtain ⟨b, o, rfl, hrng⟩ := HMS.out wr (HOLD.out _ (HCX.out _ _ HX.out.1)) k hkl
        have hm0 := HMR.out wr (HOLD.out _ (HCX.out _ _ HX.out.1)) k hkl
        have hmw := HMR0.out _ (List.getElem_mem hkl)
        have hmf := HOK.out.2.1 _ (List.getElem_mem hkl)
        have i1 : (0 : Int) ≤ (k : Int) := by omega
        have i2 : (k : Int) < (n : Int) := by omega
        have hnx := HNX.out k hkl
        have hkn := HLN.out k
        have HK : Hid (((encM t.ms[k]).length ≤ 65535 → ∀ j (h : j < t.ms.length), j < k + 1 → (encM t.ms[j]).length ≤ 65535) ∧ (¬ (encM t.ms[k]).length ≤ 65535 → rs = 22)) := Lib.hid ⟨fun h8 j h hj => by
          by_cases hjk : j = k
          · subst hjk; exact h8
          · exact HX.out.2 j h (by omega), fun h => HRS.out.trans (encE_22 HFT.out k hkl h)⟩
        generalize t.ms[k] = m at *
        obtain ⟨MK, hMK⟩ : ∃ MK, MK = (M5 ++ ((t.ms.take k).map (fun m => encB (encM m))).flatten) := ⟨_, rfl⟩
        have hMN : M5 ++ ((t.ms.take (k + 1)).map (fun m => encB (encM m))).flatten = MK ++ encB (encM m) := by rw [hnx, hMK, List.append_assoc]
        have hle : MK.length ≤ 10000000 := by rw [hMK, List.length_append]; have := HL5.out; omega
        rw [← hMK] at HX
        have HMN := Lib.hid hMN
        have HLE := Lib.hid hle
        clear hMK hnx hkn hMN hle
        obtain ⟨SL, hSL⟩ : ∃ L : List Value, L = m.cells := ⟨_, rfl⟩
        rw [← hSL] at hrng
        have hl62 : SL.length = 62 := by rw [hSL]; rfl
        have HRNG := Lib.hid hrng
        have HINF : Hid ((Tryz.prog.info? 175).map (·.size) = some SL.length) := Lib.hid (by rw [hl62]; kernel_rfl)
        have HONE : Hid (SL.toArray.all (·.oneCell') = true) := Lib.hid (by rw [hSL]; exact m.one hm0)
        have HSL := Lib.hid hSL
        have HTH : Hid ((wr.alloc (.cells #[.int .i64 0, .string ⟨#[]⟩, .string ⟨#[]⟩, .int .u64 0, .int .u64 0, .int .u64 0, .int .u64 0, .string ⟨#[]⟩, .string ⟨#[]⟩, .string ⟨#[]⟩, .string ⟨#[]⟩, .string ⟨#[]⟩, .string ⟨#[]⟩, .string ⟨#[]⟩, .string ⟨#[]⟩, .string ⟨#[]⟩, .bool false, .string ⟨#[]⟩, .int .u64 0, .int .u64 0, .slice none 0 0, .slice none 0 0, .slice none 0 0, .string ⟨#[]⟩, .int .u64 0, .int .u64 0, .slice none 0 0, .slice none 0 0, .slice none 0 0, .slice none 0 0, .slice none 0 0, .slice none 0 0, .slice none 0 0, .slice none 0 0, .int .u64 0, .int .u64 0, .int .u64 0, .int .u64 0, .string ⟨#[]⟩, .string ⟨#[]⟩, .int .u64 0, .slice none 0 0, .int .u64 0, .int .u64 0, .slice none 0 0, .int .i64 0, .slice none 0 0, .int .u64 0, .string ⟨#[]⟩, .int .u64 0, .int .u64 0, .int .u64 0, .int .u64 0, .int .u64 0, .int .u64 0, .int .u64 0, .int .u64 0, .int .u64 0, .int .u64 0, .int .u64 0, .int .u64 0, .slice none 0 0] 175)).there wr.heap.size 0 SL.toArray.size) := Lib.hid (there_newM _ _ _ _ (by simp [hl62]))
        have hrg0 := range_newM wr #[.int .i64 0, .string ⟨#[]⟩, .string ⟨#[]⟩, .int .u64 0, .int .u64 0, .int .u64 0, .int .u64 0, .string ⟨#[]⟩, .string ⟨#[]⟩, .string ⟨#[]⟩, .string ⟨#[]⟩, .string ⟨#[]⟩, .string ⟨#[]⟩, .string ⟨#[]⟩, .string ⟨#[]⟩, .string ⟨#[]⟩, .bool false, .string ⟨#[]⟩, .int .u64 0, .int .u64 0, .slice none 0 0, .slice none 0 0, .slice none 0 0, .string ⟨#[]⟩, .int .u64 0, .int .u64 0, .slice none 0 0, .slice none 0 0, .slice none 0 0, .slice none 0 0, .slice none 0 0, .slice none 0 0, .slice none 0 0, .slice none 0 0, .int .u64 0, .int .u64 0, .int .u64 0, .int .u64 0, .string ⟨#[]⟩, .string ⟨#[]⟩, .int .u64 0, .slice none 0 0, .int .u64 0, .int .u64 0, .slice none 0 0, .int .i64 0, .slice none 0 0, .int .u64 0, .string ⟨#[]⟩, .int .u64 0, .int .u64 0, .int .u64 0, .int .u64 0, .int .u64 0, .int .u64 0, .int .u64 0, .int .u64 0, .int .u64 0, .int .u64 0, .int .u64 0, .int .u64 0, .slice none 0 0] 175 SL (by rw [hl62]; exact Nat.le_refl _)
        have hb0 := below_newM wr #[.int .i64 0, .string ⟨#[]⟩, .string ⟨#[]⟩, .int .u64 0, .int .u64 0, .int .u64 0, .int .u64 0, .string ⟨#[]⟩, .string ⟨#[]⟩, .string ⟨#[]⟩, .string ⟨#[]⟩, .string ⟨#[]⟩, .string ⟨#[]⟩, .string ⟨#[]⟩, .string ⟨#[]⟩, .string ⟨#[]⟩, .bool false, .string ⟨#[]⟩, .int .u64 0, .int .u64 0, .slice none 0 0, .slice none 0 0, .slice none 0 0, .string ⟨#[]⟩, .int .u64 0, .int .u64 0, .slice none 0 0, .slice none 0 0, .slice none 0 0, .slice none 0 0, .slice none 0 0, .slice none 0 0, .slice none 0 0, .slice none 0 0, .int .u64 0, .int .u64 0, .int .u64 0, .int .u64 0, .string ⟨#[]⟩, .string ⟨#[]⟩, .int .u64 0, .slice none 0 0, .int .u64 0, .int .u64 0, .slice none 0 0, .int .i64 0, .slice none 0 0, .int .u64 0, .string ⟨#[]⟩, .int .u64 0, .int .u64 0, .int .u64 0, .int .u64 0, .int .u64 0, .int .u64 0, .int .u64 0, .int .u64 0, .int .u64 0, .int .u64 0, .int .u64 0, .int .u64 0, .slice none 0 0] 175 SL
        have hgs : wr.heap.size < ((wr.alloc (.cells #[.int .i64 0, .string ⟨#[]⟩, .string ⟨#[]⟩, .int .u64 0, .int .u64 0, .int .u64 0, .int .u64 0, .string ⟨#[]⟩, .string ⟨#[]⟩, .string ⟨#[]⟩, .string ⟨#[]⟩, .string ⟨#[]⟩, .string ⟨#[]⟩, .string ⟨#[]⟩, .string ⟨#[]⟩, .string ⟨#[]⟩, .bool false, .string ⟨#[]⟩, .int .u64 0, .int .u64 0, .slice none 0 0, .slice none 0 0, .slice none 0 0, .string ⟨#[]⟩, .int .u64 0, .int .u64 0, .slice none 0 0, .slice none 0 0, .slice none 0 0, .slice none 0 0, .slice none 0 0, .slice none 0 0, .slice none 0 0, .slice none 0 0, .int .u64 0, .int .u64 0, .int .u64 0, .int .u64 0, .string ⟨#[]⟩, .string ⟨#[]⟩, .int .u64 0, .slice none 0 0, .int .u64 0, .int .u64 0, .slice none 0 0, .int .i64 0, .slice none 0 0, .int .u64 0, .string ⟨#[]⟩, .int .u64 0, .int .u64 0, .int .u64 0, .int .u64 0, .int .u64 0, .int .u64 0, .int .u64 0, .int .u64 0, .int .u64 0, .int .u64 0, .int .u64 0, .int .u64 0, .slice none 0 0] 175)).setCells wr.heap.size 0 SL).heap.size := by rw [size_setM]; simp
        have hXw := HX.out.1.up hb0
        obtain ⟨u0, hu0⟩ : ∃ u0, u0 = (wr.alloc (.cells #[.int .i64 0, .string ⟨#[]⟩, .string ⟨#[]⟩, .int .u64 0, .int .u64 0, .int .u64 0, .int .u64 0, .string ⟨#[]⟩, .string ⟨#[]⟩, .string ⟨#[]⟩, .string ⟨#[]⟩, .string ⟨#[]⟩, .string ⟨#[]⟩, .string ⟨#[]⟩, .string ⟨#[]⟩, .string ⟨#[]⟩, .bool false, .string ⟨#[]⟩, .int .u64 0, .int .u64 0, .slice none 0 0, .slice none 0 0, .slice none 0 0, .string ⟨#[]⟩, .int .u64 0, .int .u64 0, .slice none 0 0, .slice none 0 0, .slice none 0 0, .slice none 0 0, .slice none 0 0, .slice none 0 0, .slice none 0 0, .slice none 0 0, .int .u64 0, .int .u64 0, .int .u64 0, .int .u64 0, .string ⟨#[]⟩, .string ⟨#[]⟩, .int .u64 0, .slice none 0 0, .int .u64 0, .int .u64 0, .slice none 0 0, .int .i64 0, .slice none 0 0, .int .u64 0, .string ⟨#[]⟩, .int .u64 0, .int .u64 0, .int .u64 0, .int .u64 0, .int .u64 0, .int .u64 0, .int .u64 0, .int .u64 0, .int .u64 0, .int .u64 0, .int .u64 0, .int .u64 0, .slice none 0 0] 175)).setCells wr.heap.size 0 SL := ⟨_, rfl⟩
        rw [← hu0] at hrg0 hb0 hgs hXw
        have hn2 := WrX.new u0
        have hba : Below u0.heap.size u0 (u0.alloc (.cells #[.slice none 0 0] 158)) := (Below.refl _ _).alloc (Nat.le_refl _) _
        have hr1 := range_belowM hrg0 hgs hba
        have hzz : Below w.heap.size w (u0.alloc (.cells #[.slice none 0 0] 158)) := by have h := HOLD.out _ (HCX.out _ _ (hXw.up hba)); rw [← HGG.out] at h; exact h
        have hg2 : w.heap.size ≤ u0.heap.size := by have h1 := HBB.out.1; have h2 := hXw.gB; have h3 := hXw.bW; omega
        have DM := wxmsg_any hn2 w hzz hg2 m hmw hmf (by simp)
        rw [← HSL.out] at DM
        have HDM := Lib.hid DM
        have HUP : Hid (∀ Z L, WrX (fun k => k = u0.heap.size) (u0.alloc (.cells #[.slice none 0 0] 158)) Z (u0.heap.size + 1) u0.heap.size L → WrX F X0 Z B g MK) := Lib.hid fun Z L hz => hXw.up (hba.trans hz.below)
        have HRG1 := Lib.hid hr1
        have HGR : Hid (wr.heap.size < u0.heap.size) := Lib.hid hgs
        clear hrng hl62 hSL hrg0 hb0 hgs hm0 hmw hmf hXw hn2 hba hr1 hzz hg2 DM HX
        subst hu0
        go_wp2_with (first
          | (with_reducible refine at_load 175 ?_; refine wpList_load_mid rfl 175 (.tmp 7) rfl wr.heap.size 0 rfl SL _ HRG1.out Tryz.underlying175 rfl HINF.out ?_)
          | (with_reducible refine at_load 175 ?_; refine wpList_load_mid rfl 175 (.tmp 36) rfl b (o + k * 62) rfl SL _ HRNG.out Tryz.underlying175 rfl HINF.out ?_)
          | (with_reducible refine at_store 175 ?_; refine wpList_store_mid rfl 175 (.tmp 7) (.tmp 37) rfl wr.heap.size 0 SL.toArray rfl rfl HTH.out (by have := HINF.out; simpa using this) HONE.out ?_))
        try simp only [List.toList_toArray]
        generalize (wr.alloc (.cells #[.int .i64 0, .string ⟨#[]⟩, .string ⟨#[]⟩, .int .u64 0, .int .u64 0, .int .u64 0, .int .u64 0, .string ⟨#[]⟩, .string ⟨#[]⟩, .string ⟨#[]⟩, .string ⟨#[]⟩, .string ⟨#[]⟩, .string ⟨#[]⟩, .string ⟨#[]⟩, .string ⟨#[]⟩, .string ⟨#[]⟩, .bool false, .string ⟨#[]⟩, .int .u64 0, .int .u64 0, .slice none 0 0, .slice none 0 0, .slice none 0 0, .string ⟨#[]⟩, .int .u64 0, .int .u64 0, .slice none 0 0, .slice none 0 0, .slice none 0 0, .slice none 0 0, .slice none 0 0, .slice none 0 0, .slice none 0 0, .slice none 0 0, .int .u64 0, .int .u64 0, .int .u64 0, .int .u64 0, .string ⟨#[]⟩, .string ⟨#[]⟩, .int .u64 0, .slice none 0 0, .int .u64 0, .int .u64 0, .slice none 0 0, .int .i64 0, .slice none 0 0, .int .u64 0, .string ⟨#[]⟩, .int .u64 0, .int .u64 0, .int .u64 0, .int .u64 0, .int .u64 0, .int .u64 0, .int .u64 0, .int .u64 0, .int .u64 0, .int .u64 0, .int .u64 0, .int .u64 0, .slice none 0 0] 175)).setCells wr.heap.size 0 SL = u0 at *
        generalize u0.alloc (.cells #[.slice none 0 0] 158) = u1 at *
        refine HDM.out.mono ?_
        rintro e w7 ⟨rfl, X7⟩
        have hX7 := HUP.out _ _ X7
        rw [List.nil_append] at X7
        obtain ⟨⟨v7, hb7, ho7, -⟩, -⟩ := X7
        obtain ⟨A7, c7, rfl⟩ := ho7.form
        have z0 := blk_cell hb7 0
        have HRD := Lib.hid ho7.rd
        have HX7 := Lib.hid hX7
        clear HDM HUP hb7 ho7 hX7
        generalize encM m = em at *
        obtain ⟨le, hle⟩ : ∃ le, le = em.length := ⟨_, rfl⟩
        rw [← hle] at z0 HRD HK
        by_cases h6 : le ≤ 65535
        · have h9 : ¬ (65535 : Int) < (le : Int) := by omega
          have HKK := Lib.hid (HK.out.1 h6)
          have DB := wxb_any HX7.out A7 le c7 em HRD.out (by have := HLE.out; omega)
          have HDB := Lib.hid DB
          clear HK h6 DB hle
          go_wp2_with fail
          refine HDB.out.mono ?_
          rintro e w8 ⟨rfl, X8⟩
          rw [← HMN.out] at X8
          have HNXT := Lib.hid (And.intro X8 HKK.out)
          clear HDB X8 z0
          go_wp2_with fail
          exact ⟨⟨k + 1, by omega, by go_num, HNXT⟩, by simp [intOf]; omega⟩
        · have h9 : (65535 : Int) < (le : Int) := by omega
          have hres := Lib.hid (HK.out.2 h6)
          have HFN := Lib.hid (HOLD.out _ (HCX.out _ _ HX7.out))
          clear HK h6 hle
          go_wp2_with fail
          go_ret2
          refine ⟨.slice none 0 0, ?_, HFN.out, fun h => absurd (hres.out.symm.trans h) (by decide), fun _ => rfl⟩
          rw [hres.out]
          rfl
      · have hk2 : ¬ (k : Int) < (n : Int) := by omega
        obtain rfl : k = n := by omega
        have HNXT : Hid (WrX F X0 wr B g (M5 ++ (t.ms.map (fun m => encB (encM m))).flatten) ∧ (∀ k (hk : k < t.ms.length), (encM t.ms[k]).length ≤ 65535)) := Lib.hid ⟨by have h := HX.out.1; rw [HNN.out, List.take_length] at h; exact h, fun j hj => HX.out.2 j hj (by rw [HNN.out]; exact hj)⟩
        clear HX
        go_wp2_with fail
        go_meet
        case rel => exact HNXT
  case rest =>
    have hX6 := hcut.out.1
    have hres := Lib.hid (HRS.out.trans (encE_0 HFT.out hcut.out.2))
    obtain ⟨M6, hM⟩ : ∃ M6, M6 = M5 ++ (t.ms.map (fun m => encB (encM m))).flatten := ⟨_, rfl⟩
    have HL6 : Hid (M6.length ≤ 3000000) := Lib.hid (by rw [hM, List.length_append]; have := HL5.out; have h := HLN.out t.ms.length; rw [List.take_length] at h; omega)
    rw [← hM] at hX6
    have HM6 := Lib.hid hM
    clear hcut hM HX0 HLN HNX HMS HMR HMR0
    have c8 := HC.out _ (HCX.out _ _ hX6) 8 (.slice As t.sig.length cs) rfl
    have D := Lib.hid (wxb_any hX6 As _ cs t.sig (by have h0 := HR.out.sig; rw [HSG.out] at h0; have h := HOLD.out _ (HCX.out _ _ hX6); rw [← HGG.out] at h; exact h0.up (Nat.le_refl _) h) (by have := HL6.out; omega))
    clear hX6
    go_wp2_with fail
    refine D.out.mono ?_
    rintro e y7 ⟨rfl, Y⟩
    obtain ⟨M7, hM⟩ : ∃ M7, M7 = M6 ++ encB t.sig := ⟨_, rfl⟩
    have hX7 : WrX F X0 y7 B g M7 := by rw [hM]; exact Y
    have HL7 : Hid (M7.length ≤ 3065539) := Lib.hid (by rw [hM, List.length_append]; have := HL6.out; have := encB_lenW t.sig; omega)
    have HM7 := Lib.hid hM
    clear hM Y D c8
    have hfin : M7 = encTx t := by
      rw [HM7.out, HM6.out, HM5.out, HM4.out, HM3.out, HM2.out, HM1.out, HM0.out]
      rw [HNN.out]
      simp only [encTx, List.append_assoc, List.nil_append]
    have HFIN := Lib.hid (HOLD.out _ (HCX.out _ _ hX7))
    obtain ⟨⟨v, hb, ho, -⟩, -⟩ := hX7
    rw [hfin] at ho
    have z0 := blk_cell hb 0
    have HOW := Lib.hid (ho.more HBB.out.2)
    obtain ⟨A7, c7, rfl⟩ := ho.form
    clear hfin hb ho
    go_wp2_with fail
    go_ret2
    refine ⟨_, ?_, HFIN.out, fun _ => HOW.out, fun h => absurd hres.out h⟩
    rw [hres.out]
    rfl
end Go.Proofs.YtniclaapiabmdaaGreatDoor
namespace Go.Proofs.YtniclaapiabmdaaGreatDoor
set_option maxRecDepth 100000
open Go Go.RowKit
set_option linter.unusedVariables false

def TxV.bare (t : TxV) : TxV := { t with vsig := .slice none 0 0, sig := [] }
theorem TxV.rd.bare {w : World} {t : TxV} (h : t.rd w) : t.bare.rd w := ⟨h.sg, h.seq, h.gas, h.fee, h.ms, h.msr, Rd.nil _ _, h.ml⟩
def encSgn (ch : ByteArray) (t : TxV) : List UInt8 := encW ch ++ encB (encTx t.bare)
set_option maxHeartbeats 40000000 in
theorem sb_any (w : World) (ch : ByteArray) (hch : ch.size ≤ maxLen) (t : TxV) (hr : t.rd w) :
    Calls Tryz.prog 32 #[.string ch, .agg t.cells] w fun e w' => ∃ v, e = .returned (.tuple #[v, .int .i64 (encE t.bare)]) ∧ Below w.heap.size w w' ∧ (encE t.bare = 0 → Own w' w.heap.size v (encSgn ch t)) ∧ (encE t.bare ≠ 0 → v = .slice none 0 0) := by
  obtain ⟨Am, cm, hvm⟩ : ∃ A c, t.vms = .slice A t.ms.length c := by obtain ⟨A, c, e, _⟩ := hr.ms; exact ⟨A, c, e⟩
  obtain ⟨As, cs, hvs⟩ := hr.sig.form
  have hcl : t.cells = #[.string t.sg, .int .u64 (t.seq : Int), .int .u64 (t.gas : Int), .int .u64 (t.fee.a : Int), .int .u64 (t.fee.b : Int), .int .u64 (t.fee.c : Int), .int .u64 (t.fee.d : Int), .slice Am t.ms.length cm, .slice As t.sig.length cs] := by rw [TxV.cells, hvm, hvs]
  have hcb : t.bare.cells = #[.string t.sg, .int .u64 (t.seq : Int), .int .u64 (t.gas : Int), .int .u64 (t.fee.a : Int), .int .u64 (t.fee.b : Int), .int .u64 (t.fee.c : Int), .int .u64 (t.fee.d : Int), .slice Am t.ms.length cm, .slice none 0 0] := by rw [TxV.cells]; show #[_, _, _, _, _, _, _, t.vms, _] = _; rw [hvm]; rfl
  have hx := hr.bare
  have hes0 : encSgn ch t = encW ch ++ encB (encTx t.bare) := rfl
  generalize t.bare = tb at *
  rw [hcl]
  generalize t.sig.length = sl at *
  obtain ⟨n, hnn⟩ : ∃ n, n = t.ms.length := ⟨_, rfl⟩
  rw [← hnn] at hcb ⊢
  have ha0 : Below w.heap.size w (w.alloc (.cells #[.string t.sg, .int .u64 (t.seq : Int), .int .u64 (t.gas : Int), .int .u64 (t.fee.a : Int), .int .u64 (t.fee.b : Int), .int .u64 (t.fee.c : Int), .int .u64 (t.fee.d : Int), .slice Am n cm, .slice none 0 0] 29)) := (Below.refl _ _).alloc (Nat.le_refl _) _
  have HF := encode_any _ tb (hx.up ha0)
  rw [hcb] at HF
  have HFE := Lib.hid HF
  have HA0 := Lib.hid ha0
  have HES : Hid (encSgn ch t = encW ch ++ encB (encTx tb)) := Lib.hid hes0
  obtain ⟨es, hes⟩ : ∃ es, es = encSgn ch t := ⟨_, rfl⟩
  rw [← hes] at HES ⊢
  obtain ⟨et, het⟩ : ∃ et, et = encTx tb := ⟨_, rfl⟩
  rw [← het] at HES HFE
  obtain ⟨fe, hfe⟩ : ∃ fe, fe = encE tb := ⟨_, rfl⟩
  rw [← hfe] at HFE ⊢
  clear hes0 HF hcl hcb hx hr hvm hvs hnn ha0 hes het hfe
  go_enter Tryz.func32, Tryz.ntmps32
  go_wp2_with fail
  refine HFE.out.mono ?_
  rintro e w2 ⟨v, rfl, hb2, ho, hn⟩
  have hB2 := Lib.hid (below_chain HA0.out HA0.out.size hb2)
  have HHS := Lib.hid HA0.out.size
  clear HFE hb2 HA0
  by_cases hf0 : fe = 0
  · have HO := Lib.hid (ho hf0)
    subst hf0
    clear ho hn
    go_wp2_with fail
    refine (T_any (.slice none 0 0) ch [] w2 (Rd.nil _ _) hch (by simp)).mono ?_
    rintro e w3 ⟨v3, rfl, ho3, hb3⟩
    have ho3' : Own w3 w2.heap.size v3 (encW ch) := by rw [List.nil_append] at ho3; exact ho3
    have HD := Lib.hid (B_any v3 v (encW ch) et w3 ho3'.rd ((HO.out.below hb3).rd) (by have := encW_len ch; omega))
    have HB3 := Lib.hid (And.intro (below_chain hB2.out hB2.out.size hb3) (Nat.le_trans hB2.out.size hb3.size))
    clear ho3 ho3' hb3
    go_wp2_with fail
    refine HD.out.mono ?_
    rintro e w4 ⟨v4, rfl, ho4, hb4⟩
    have HB4 := Lib.hid (below_chain HB3.out.1 HB3.out.1.size hb4)
    have HO4 : Hid (Own w4 w.heap.size v4 es) := Lib.hid (by
      have h := ho4.more HB3.out.2
      rw [List.append_assoc] at h
      rw [HES.out]
      exact h)
    clear HD hb4 ho4
    go_wp2_with fail
    go_ret2
    first | exact ⟨v4, rfl, HB4.out, HO4.out⟩ | exact ⟨v4, rfl, HB4.out, fun _ => HO4.out, fun h => absurd rfl h⟩
  · have f1 : (fe != 0) = true := by simpa using hf0
    have HF0 := Lib.hid hf0
    clear hf0 ho hn
    go_wp2_with fail
    go_ret2
    exact ⟨.slice none 0 0, rfl, hB2.out, fun h => absurd h HF0.out, fun _ => rfl⟩
end Go.Proofs.YtniclaapiabmdaaGreatDoor
namespace Go.Proofs.YtniclaapiabmdaaGreatDoor
set_option maxRecDepth 100000
open Go.RowKit

variable {w : World} {lo g : Nat} {rest : List UInt8} {fault : Int}

/-- what a take that goes leaves -/
def TakeOk (w : World) (lo g : Nat) (rest : List UInt8) (n : Nat) (e : Ending) (w' : World) : Prop :=
  ∃ A c sv', e = .returned (.tuple #[.slice A n c, .bool true]) ∧ w.setCell ⟨g, 0, none⟩ sv' = w' ∧ Rd w g (.slice A n c) (rest.take n) ∧ Rd w g sv' (rest.drop n) ∧ (∀ k, sv'.ownBlock = some k → lo ≤ k)

/-! ### the document's N, B, F, Count -/
theorem Ddr.open_ (h : Ddr w lo g rest fault) : ∃ sv, w.cell? ⟨g, 0, none⟩ = some sv ∧ w.cell? ⟨g, 1, none⟩ = some (.int .i64 fault) ∧ w.frozen? ⟨g, 0, none⟩ = false ∧ w.frozen? ⟨g, 1, none⟩ = false := by
  obtain ⟨sv, hg, _⟩ := h
  exact ⟨sv, blk_cell hg 0, blk_cell hg 1, blk_free hg 0, blk_free hg 1⟩

end Go.Proofs.YtniclaapiabmdaaGreatDoor
namespace Go.Proofs.YtniclaapiabmdaaGreatDoor
set_option maxRecDepth 100000
open Go.RowKit

variable {w : World} {lo g : Nat} {rest : List UInt8} {fault : Int}

end Go.Proofs.YtniclaapiabmdaaGreatDoor
namespace Go.Proofs.YtniclaapiabmdaaGreatDoor
set_option maxRecDepth 100000
open Go.RowKit

variable {w : World} {lo g : Nat} {rest : List UInt8} {fault : Int}

theorem Rd.grown {w w' : World} {g : Nat} {v : Value} {l : List UInt8} (h : Rd w g v l) (hg : w.grownBy w' (some g)) (hlt : g ≤ w.heap.size) : Rd w' g v l :=
  h.keep fun p hp => World.cell?_of_block (hg.block p.block (by omega) (by intro e; injection e with e; omega))

end Go.Proofs.YtniclaapiabmdaaGreatDoor
namespace Go.Proofs.YtniclaapiabmdaaGreatDoor
set_option maxRecDepth 100000
open Go.RowKit

end Go.Proofs.YtniclaapiabmdaaGreatDoor
namespace Go.Proofs.YtniclaapiabmdaaGreatDoor
set_option maxRecDepth 100000
open Go.RowKit

end Go.Proofs.YtniclaapiabmdaaGreatDoor
namespace Go.Proofs.YtniclaapiabmdaaGreatDoor
set_option maxRecDepth 100000
open Go.RowKit

end Go.Proofs.YtniclaapiabmdaaGreatDoor
namespace Go.Proofs.YtniclaapiabmdaaGreatDoor
set_option maxRecDepth 100000
open Go.RowKit

end Go.Proofs.YtniclaapiabmdaaGreatDoor
namespace Go.Proofs.YtniclaapiabmdaaGreatDoor
set_option maxRecDepth 100000
open Go.RowKit

def padS (M : List UInt8) (F b : Nat) : Nat → List UInt8
  | 0 => M
  | i + 1 => (padS M F b i).set (F - 1 - i) (UInt8.ofNat (b / 2 ^ (8 * i)))
end Go.Proofs.YtniclaapiabmdaaGreatDoor
namespace Go.Proofs.YtniclaapiabmdaaGreatDoor
set_option maxRecDepth 100000
open Go.RowKit

/-- what stays while the rounds are made -/
structure KB (n0 : Nat) (w : World) (s : S8) (p : List UInt32) (fr : TypeId × Nat × Nat) (w' : World) : Prop where
  st : w'.heap[n0]? = some (.cells #[.int .u32 (s.a.toNat : Int), .int .u32 (s.b.toNat : Int), .int .u32 (s.c.toNat : Int), .int .u32 (s.d.toNat : Int), .int .u32 (s.e.toNat : Int), .int .u32 (s.f.toNat : Int), .int .u32 (s.g.toNat : Int), .int .u32 (s.h.toNat : Int)] 124 (0, 0))
  res : w'.heap[n0 + 1]? = some (.cells #[.int .u32 0, .int .u32 0, .int .u32 0, .int .u32 0, .int .u32 0, .int .u32 0, .int .u32 0, .int .u32 0] 124 (0, 0))
  tab : w'.heap[1]? = some (.cells kVals fr.1 fr.2)
  row : w'.heap[n0 + 1 + 1]? = some (.cells (arr64 p).toArray 181 (0, 0))
  bel : Below n0 w w'
theorem KB.drew {n0 : Nat} {w : World} {s : S8} {p : List UInt32} {fr : TypeId × Nat × Nat} {w' : World} (h : KB n0 w s p fr w') : KB n0 w s p fr w'.drew := ⟨h.st, h.res, h.tab, h.row, h.bel.drew⟩
theorem KB.drewN {n0 : Nat} {w : World} {s : S8} {p : List UInt32} {fr : TypeId × Nat × Nat} {w' : World} (h : KB n0 w s p fr w') (k : Nat) : KB n0 w s p fr (w'.drewN k) := ⟨h.st, h.res, h.tab, h.row, below_drewN' h.bel k⟩
theorem KB.put {n0 : Nat} {w : World} {s : S8} {p : List UInt32} {fr : TypeId × Nat × Nat} {w' : World} (h : KB n0 w s p fr w') (h0 : 1 < n0) (x : UInt32) (t : Nat) (ht : p.length = t) (h64 : t < 64) :
    KB n0 w s (p ++ [x]) fr (w'.setCell ⟨n0 + 1 + 1, t, none⟩ (.int .u32 (x.toNat : Int))) := by
  subst ht
  refine ⟨(Below.heap_setCell w' _ _ n0 (by simp <;> omega)).trans h.st, (Below.heap_setCell w' _ _ (n0 + 1) (by simp)).trans h.res, (Below.heap_setCell w' _ _ _ (by simp <;> omega)).trans h.tab, ?_, h.bel.setCell (by simp <;> omega) _⟩
  rw [blk_set h.row, ← arr64_set _ _ h64]
  simp
theorem KB.start (w : World) (s : S8) (fr : TypeId × Nat × Nat) (hk : w.heap[1]? = some (.cells kVals fr.1 fr.2)) :
    KB w.heap.size w s [] fr (((w.alloc (.cells #[.int .u32 (s.a.toNat : Int), .int .u32 (s.b.toNat : Int), .int .u32 (s.c.toNat : Int), .int .u32 (s.d.toNat : Int), .int .u32 (s.e.toNat : Int), .int .u32 (s.f.toNat : Int), .int .u32 (s.g.toNat : Int), .int .u32 (s.h.toNat : Int)] 124)).alloc
      (.cells #[.int .u32 0, .int .u32 0, .int .u32 0, .int .u32 0, .int .u32 0, .int .u32 0, .int .u32 0, .int .u32 0] 124)).alloc (.cells (arr64 []).toArray 181)) := by
  have h0 := blk_lt hk
  refine ⟨?_, ?_, ?_, ?_, (((Below.refl _ _).alloc (Nat.le_refl _) _).alloc (by simp) _).alloc (by simp <;> omega) _⟩
  · exact (Below.heap_alloc _ _ _ (by simp <;> omega)).trans ((Below.heap_alloc _ _ _ (by simp)).trans (heap_alloc_new w _))
  · refine (Below.heap_alloc _ _ _ (by simp)).trans ?_
    have := heap_alloc_new (w.alloc (.cells #[.int .u32 (s.a.toNat : Int), .int .u32 (s.b.toNat : Int), .int .u32 (s.c.toNat : Int), .int .u32 (s.d.toNat : Int), .int .u32 (s.e.toNat : Int), .int .u32 (s.f.toNat : Int), .int .u32 (s.g.toNat : Int), .int .u32 (s.h.toNat : Int)] 124)) (.cells #[.int .u32 0, .int .u32 0, .int .u32 0, .int .u32 0, .int .u32 0, .int .u32 0, .int .u32 0, .int .u32 0] 124)
    simpa using this
  · exact (Below.heap_alloc _ _ _ (by simp <;> omega)).trans ((Below.heap_alloc _ _ _ (by simp <;> omega)).trans ((Below.heap_alloc _ _ _ h0).trans hk))
  · have := heap_alloc_new ((w.alloc (.cells #[.int .u32 (s.a.toNat : Int), .int .u32 (s.b.toNat : Int), .int .u32 (s.c.toNat : Int), .int .u32 (s.d.toNat : Int), .int .u32 (s.e.toNat : Int), .int .u32 (s.f.toNat : Int), .int .u32 (s.g.toNat : Int), .int .u32 (s.h.toNat : Int)] 124)).alloc (.cells #[.int .u32 0, .int .u32 0, .int .u32 0, .int .u32 0, .int .u32 0, .int .u32 0, .int .u32 0, .int .u32 0] 124)) (.cells (arr64 []).toArray 181)
    simpa using this

end Go.Proofs.YtniclaapiabmdaaGreatDoor
namespace Go.Proofs.YtniclaapiabmdaaGreatDoor
set_option maxRecDepth 100000
open Go.RowKit

/-! ### the whole message filled up is its whole blocks and the rest filled up -/
/-- block g holds the state s -/
def RBlk (w : World) (g : Nat) (s : S8) : Prop := w.heap[g]? = some (.cells s.list.toArray 124 (0, 0))

theorem RBlk.cells {w : World} {g : Nat} {s : S8} (h : RBlk w g s) : w.rangeAt g 0 s.list := by
  have := World.rangeAt_of_block h 0 8
  rwa [show (s.list.toArray.extract 0 (0 + 8)).toList = s.list by simp [S8.list]] at this
theorem RBlk.below {w w' : World} {g : Nat} {s : S8} (h : RBlk w g s) (hb : Below w.heap.size w w') : RBlk w' g s := (hb.block g (blk_lt h)).trans h

theorem RBlk.at8 {w : World} {g : Nat} {s : S8} (h : RBlk w g s) : w.cell? ⟨g, 0, none⟩ = some (.int .u32 (s.a.toNat : Int)) ∧ w.cell? ⟨g, 1, none⟩ = some (.int .u32 (s.b.toNat : Int)) ∧ w.cell? ⟨g, 2, none⟩ = some (.int .u32 (s.c.toNat : Int)) ∧ w.cell? ⟨g, 3, none⟩ = some (.int .u32 (s.d.toNat : Int)) ∧
    w.cell? ⟨g, 4, none⟩ = some (.int .u32 (s.e.toNat : Int)) ∧ w.cell? ⟨g, 5, none⟩ = some (.int .u32 (s.f.toNat : Int)) ∧ w.cell? ⟨g, 6, none⟩ = some (.int .u32 (s.g.toNat : Int)) ∧ w.cell? ⟨g, 7, none⟩ = some (.int .u32 (s.h.toNat : Int)) :=
  ⟨blk_cell h 0, blk_cell h 1, blk_cell h 2, blk_cell h 3, blk_cell h 4, blk_cell h 5, blk_cell h 6, blk_cell h 7⟩


theorem RBlk.word {w : World} {g : Nat} {s : S8} (h : RBlk w g s) (t : Nat) (ht : t < 8) : w.cell? ⟨g, t, none⟩ = some (.int .u32 ((s.word t).toNat : Int)) := by
  rw [blk_cell h t]
  have : t = 0 ∨ t = 1 ∨ t = 2 ∨ t = 3 ∨ t = 4 ∨ t = 5 ∨ t = 6 ∨ t = 7 := by omega
  rcases this with rfl | rfl | rfl | rfl | rfl | rfl | rfl | rfl <;> rfl

end Go.Proofs.YtniclaapiabmdaaGreatDoor
namespace Go.Proofs.YtniclaapiabmdaaGreatDoor
set_option maxRecDepth 100000
open Go.RowKit

end Go.Proofs.YtniclaapiabmdaaGreatDoor
namespace Go.Proofs.YtniclaapiabmdaaGreatDoor
set_option maxRecDepth 100000
open Go Go.RowKit

theorem partsOf3 (w : World) (va vb vc : Value) (a b c : List UInt8) (t : TypeId) (ha : Rd w w.heap.size va a) (hb : Rd w w.heap.size vb b) (hc : Rd w w.heap.size vc c) :
    Parts (w.alloc (.cells #[va, vb, vc] t)) (w.alloc (.cells #[va, vb, vc] t)).heap.size (.slice (some ⟨w.heap.size, 0, none⟩) 3 3) [a, b, c] := by
  have hbw : Below w.heap.size w (w.alloc (.cells #[va, vb, vc] t)) := (Below.refl _ _).alloc (Nat.le_refl _) _
  have hg := heap_alloc_new w (.cells #[va, vb, vc] t)
  refine ⟨_, 3, rfl, fun _ => ⟨w.heap.size, 0, rfl, by simp, fun j hj => ?_⟩⟩
  rw [show (0 + j) = j by omega, blk_cell hg]
  rcases j with _ | _ | _ | j
  · exact ⟨va, rfl, ha.up (Nat.le_refl _) hbw⟩
  · exact ⟨vb, rfl, hb.up (Nat.le_refl _) hbw⟩
  · exact ⟨vc, rfl, hc.up (Nat.le_refl _) hbw⟩
  · exact absurd hj (by simp)
def secretWord : ByteArray := ⟨#[115, 101, 99, 114, 101, 116]⟩
def stepWord : ByteArray := ⟨#[115, 116, 101, 112]⟩
def secretL (seed : List UInt8) (key c : Nat) : List UInt8 := shaSum (formB (strBytes secretWord) ++ formBs [seed, be key 8, be c 8])
def stepL (c i : Nat) (v : List UInt8) : List UInt8 := shaSum (formB (strBytes stepWord) ++ formBs [be c 8, be i 8, v])
def walkL (c : Nat) : Nat → Nat → List UInt8 → List UInt8
  | _, 0, v => v
  | i, n + 1, v => walkL c (i + 1) n (stepL c i v)

theorem gnumber_any (n : Nat) (w : World) (hn : n ≤ 1000) :
    Calls Tryz.prog 135 #[.int .i64 (n : Int)] w fun e w' => ∃ v', e = .returned v' ∧ Own w' w.heap.size v' (be n 8) ∧ Below w.heap.size w w' := by
  go_enter Tryz.func135, Tryz.ntmps135
  go_wp2_with fail
  refine (N_any (.slice none 0 0) [] n w (Rd.nil _ _) (by omega) (by simp)).mono ?_
  rintro e w1 ⟨v1, rfl, ho1, hb1⟩
  go_wp2_with fail
  go_ret
  exact ⟨_, rfl, ho1, hb1⟩

set_option maxHeartbeats 4000000 in
theorem walk_any (v : Value) (l : List UInt8) (c s t : Nat) (w : World) (B0 : Nat) (hv : RdS w B0 v l) (h1 : c ≤ 1000) (h2 : s ≤ 1000) (h3 : t ≤ 1000) (fr : TypeId × Nat × Nat) (hk : w.heap[0]? = some (.cells kVals fr.1 fr.2)) :
    Calls Tryz.prog 136 #[.int .i64 (c : Int), .int .i64 (s : Int), .int .i64 (t : Int), v] w fun e w' => ∃ v', e = .returned v' ∧ RdS w' B0 v' (walkL c s (t - s) l) ∧ Below w.heap.size w w' := by
  have hn0 := blk_lt hk
  have HK := Lib.hid hk
  have N1 := Lib.hid (fun W : World => gnumber_any c W h1)
  clear hk
  go_enter Tryz.func136, Tryz.ntmps136
  go_wp2_with fail
  go_loopw [3, 9] (fun vv i wr => ∃ (k : Nat) (lv : List UInt8), k ≤ 1000 ∧ i = .int .i64 (k : Int) ∧ RdS wr B0 vv lv ∧ walkL c k (t - k) lv = walkL c s (t - s) l ∧ Below w.heap.size w wr)
    (fun _ i _ => t - (intOf i).toNat)
  case atStart => exact ⟨s, l, h2, rfl, hv, rfl, Below.refl _ _⟩
  case round =>
    obtain ⟨k, lv, hk1, rfl, hr, he, hb⟩ := hrel
    have HE := Lib.hid he
    clear he hv
    obtain ⟨A, cc, rfl⟩ := hr.1.form
    by_cases hlt : k < t
    · have i2 : (k : Int) < (t : Int) := by omega
      have N2 := Lib.hid (fun W : World => gnumber_any k W hk1)
      obtain ⟨lc, hlc'⟩ : ∃ x, x = be c 8 := ⟨_, rfl⟩
      obtain ⟨lk, hlk'⟩ : ∃ x, x = be k 8 := ⟨_, rfl⟩
      have HS : Hid (stepL c k lv = shaSum (formB (strBytes stepWord) ++ formBs [lc, lk, lv])) := Lib.hid (by rw [hlk', hlc']; rfl)
      rw [← hlc'] at N1
      rw [← hlk'] at N2
      clear hlc' hlk'
      go_wp2_with fail
      refine (N1.out _).mono ?_
      rintro e w1 ⟨v1, rfl, ho1, hb1⟩
      obtain ⟨A1, c1, rfl⟩ := ho1.form
      go_wp2_with fail
      refine (N2.out _).mono ?_
      rintro e w2 ⟨v2, rfl, ho2, hb2⟩
      obtain ⟨A2, c2, rfl⟩ := ho2.form
      have hq1 := below_chain hb hb.size hb1
      have hq2 := below_chain hq1 hq1.size hb2
      have hr0 := (hr.1.up (Nat.le_refl _) hb1).up (Nat.le_refl _) hb2
      have hr1 := ho1.rd.up (Nat.le_refl _) hb2
      have hr2 := ho2.rd
      clear hb1 hb2 ho1 ho2 hq1 hr hb
      go_wp2_with fail
      have hp := partsOf3 w2 _ _ _ _ _ _ 27 hr1 hr2 hr0
      have hbx : Below w.heap.size w (w2.alloc (.cells #[.slice A1 lc.length c1, .slice A2 lk.length c2, .slice A lv.length cc] 27)) := hq2.alloc hq2.size _
      generalize w2.alloc (.cells #[.slice A1 lc.length c1, .slice A2 lk.length c2, .slice A lv.length cc] 27) = w3 at *
      refine (tagged_any stepWord _ [lc, lk, lv] w3 hp (by unfold maxLen stepWord; decide) (by simp) fr ((hbx.block _ hn0).trans HK.out)).mono ?_
      rintro e w4 ⟨v4, rfl, ho4, hb4⟩
      rw [← HS.out] at ho4
      have hq4 := below_chain hbx hbx.size hb4
      have hr4 : RdS w4 B0 v4 (stepL c k lv) := ho4.rdS
      have HW : Hid (walkL c (k + 1) (t - (k + 1)) (stepL c k lv) = walkL c s (t - s) l) := Lib.hid (by
        rw [← HE.out, show t - k = (t - (k + 1)) + 1 by omega]; rfl)
      clear hp hbx hb4 ho4 hr0 hr1 hr2 hq2
      go_wp2_with fail
      go_roundw
      case rel => exact ⟨k + 1, _, by omega, by go_num, hr4, HW.out, hq4⟩
      case measure => simp [intOf]; omega
    · have i2 : ¬ (k : Int) < (t : Int) := by omega
      have e0 : t - k = 0 := by omega
      go_wp2_with fail
      go_ret
      have h := HE.out
      rw [e0] at h
      rw [← h]
      exact ⟨_, rfl, hr, hb⟩

end Go.Proofs.YtniclaapiabmdaaGreatDoor
namespace Go.Proofs.YtniclaapiabmdaaGreatDoor
set_option maxRecDepth 100000
open Go Go.RowKit

def leafWord : ByteArray := ⟨#[108, 101, 97, 102]⟩
def nodeWord : ByteArray := ⟨#[110, 111, 100, 101]⟩
def leafOf (k : Nat) (ends : List (List UInt8)) : List UInt8 := shaSum (formB (strBytes leafWord) ++ formBs (be k 8 :: ends))
def nodeL (a b : List UInt8) : List UInt8 := shaSum (formB (strBytes nodeWord) ++ formBs [a, b])
def pairsL : List (List UInt8) → List (List UInt8)
  | a :: b :: r => nodeL a b :: pairsL r
  | _ => []
/-- f 0, f 1 and so on, n of them -/
def rowL (f : Nat → List UInt8) : Nat → List (List UInt8)
  | 0 => []
  | n + 1 => rowL f n ++ [f n]
theorem rowL_length (f : Nat → List UInt8) (n : Nat) : (rowL f n).length = n := by induction n <;> simp [rowL, *]
def endL (seed : List UInt8) (k c : Nat) : List UInt8 := walkL c 0 15 (secretL seed k c)
def leafS (seed : List UInt8) (k : Nat) : List UInt8 := leafOf k (rowL (endL seed k) 18)
def levL (seed : List UInt8) : Nat → List (List UInt8)
  | 0 => rowL (leafS seed) 8
  | t + 1 => pairsL (levL seed t)
def rootL (seed : List UInt8) : List UInt8 := (levL seed 3).headD []

theorem RowS.parts {w : World} {B0 : Nat} {v : Value} {ls : List (List UInt8)} (h : RowS w B0 v ls) : Parts w w.heap.size v ls := by
  obtain ⟨A, c, rfl, _, _, hp⟩ := h
  refine ⟨A, c, rfl, fun h0 => ?_⟩
  obtain ⟨b, o, rfl, hlt, _, hcell⟩ := hp h0
  exact ⟨b, o, rfl, hlt, fun j hj => by obtain ⟨x, hx, hr⟩ := hcell j hj; exact ⟨x, hx, hr.1⟩⟩
theorem partsOf2 (w : World) (va vb : Value) (a b : List UInt8) (t : TypeId) (ha : Rd w w.heap.size va a) (hb : Rd w w.heap.size vb b) :
    Parts (w.alloc (.cells #[va, vb] t)) (w.alloc (.cells #[va, vb] t)).heap.size (.slice (some ⟨w.heap.size, 0, none⟩) 2 2) [a, b] := by
  have hbw : Below w.heap.size w (w.alloc (.cells #[va, vb] t)) := (Below.refl _ _).alloc (Nat.le_refl _) _
  have hg := heap_alloc_new w (.cells #[va, vb] t)
  refine ⟨_, 2, rfl, fun _ => ⟨w.heap.size, 0, rfl, by simp, fun j hj => ?_⟩⟩
  rw [show (0 + j) = j by omega, blk_cell hg]
  rcases j with _ | _ | j
  · exact ⟨va, rfl, ha.up (Nat.le_refl _) hbw⟩
  · exact ⟨vb, rfl, hb.up (Nat.le_refl _) hbw⟩
  · exact absurd hj (by simp)
end Go.Proofs.YtniclaapiabmdaaGreatDoor
namespace Go.Proofs.YtniclaapiabmdaaGreatDoor
set_option maxRecDepth 100000
open Go Go.RowKit

end Go.Proofs.YtniclaapiabmdaaGreatDoor
namespace Go.Proofs.YtniclaapiabmdaaGreatDoor
set_option maxRecDepth 100000
open Go Go.RowKit

def levsL (seed : List UInt8) : Nat → List (List (List UInt8))
  | 0 => [levL seed 0]
  | t + 1 => levsL seed t ++ [levL seed (t + 1)]
theorem Parts.drew {w : World} {B : Nat} {v : Value} {ps : List (List UInt8)} (h : Parts w B v ps) : Parts w.drew B v ps := h
def sliceLen : Value → Nat
  | .slice _ n _ => n
  | _ => 0

end Go.Proofs.YtniclaapiabmdaaGreatDoor
namespace Go.Proofs.YtniclaapiabmdaaGreatDoor
set_option maxRecDepth 100000
open Go Go.RowKit

end Go.Proofs.YtniclaapiabmdaaGreatDoor
namespace Go.Proofs.YtniclaapiabmdaaGreatDoor
set_option maxRecDepth 100000
open Go Go.RowKit

end Go.Proofs.YtniclaapiabmdaaGreatDoor
