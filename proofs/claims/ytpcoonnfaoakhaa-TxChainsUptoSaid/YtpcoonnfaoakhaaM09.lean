/- Texts joined: TxN, TxS, TxD, TxO. -/
import Derived.Test.YtpcoonnfaoakhaaM08
import Derived.Test.YtpcoonnfaoakhaaM02
import Derived.Test.YtpcoonnfaoakhaaM03
namespace Go.Proofs.Ytpcoonnfaoakhaa
set_option maxRecDepth 100000
open Go Go.RowKit
set_option linter.unusedVariables false

theorem TxV.rd.up {w w' : World} {t : TxV} (h : t.rd w) (hb : Below w.heap.size w w') : t.rd w' := by
  refine ⟨h.sg, h.seq, h.gas, h.fee, ?_, fun m hm => (h.msr m hm).keptM (kept_belowM hb), h.sig.up (Nat.le_refl _) hb, h.ml⟩
  obtain ⟨A, c, e, hp⟩ := h.ms
  refine ⟨A, c, e, fun h0 => ?_⟩
  obtain ⟨b, o, h1, h2, h3⟩ := hp h0
  exact ⟨b, o, h1, Nat.lt_of_lt_of_le h2 hb.size, fun j hj i u hu => (hb.cell (p := ⟨b, o + j * 62 + i, none⟩) h2).trans (h3 j hj i u hu)⟩
theorem fitsE_ok {t : TxV} (h : fitsE t = 0) : t.ms.length ≤ 8 ∧ (∀ m ∈ t.ms, m.fine) ∧ t.sg.size ≤ 65535 ∧ t.sig.length ≤ 65535 := by
  unfold fitsE at h
  split at h
  · exact absurd h (by decide)
  · rename_i h8
    split at h
    · rename_i h1
      split at h
      · rename_i h2
        split at h
        · rename_i h3
          rw [List.all_eq_true] at h1 h2
          refine ⟨by omega, fun m hm => ?_, h3.1, h3.2⟩
          have k := h2 m hm
          rw [Bool.and_eq_true] at k
          exact MsgV.fine_of (h1 m hm) k.1 k.2
        · exact absurd h (by decide)
      · exact absurd h (by decide)
    · exact absurd h (by decide)
theorem encE_22 {t : TxV} (h : fitsE t = 0) (k : Nat) (hk : k < t.ms.length) (hb : ¬ (encM t.ms[k]).length ≤ 65535) : encE t = 22 := by
  unfold encE
  rw [if_pos h, if_neg]
  intro e
  rw [List.all_eq_true] at e
  have := e _ (List.getElem_mem hk)
  simp only [decide_eq_true_eq] at this
  exact hb this
theorem encE_0 {t : TxV} (h : fitsE t = 0) (hb : ∀ k (hk : k < t.ms.length), (encM t.ms[k]).length ≤ 65535) : encE t = 0 := by
  unfold encE
  rw [if_pos h, if_pos]
  rw [List.all_eq_true]
  intro x hx
  obtain ⟨j, hj, rfl⟩ := List.getElem_of_mem hx
  simpa using hb j hj
set_option maxRecDepth 100000 in
set_option maxHeartbeats 40000000 in
theorem encode_any (w : World) (t : TxV) (hr : t.rd w) :
    Calls Try.prog 24 #[.agg t.cells] w fun e w' => ∃ v, e = .returned (.tuple #[v, .int .i64 (encE t)]) ∧ Below w.heap.size w w' ∧ (encE t = 0 → Own w' w.heap.size v (encTx t)) ∧ (encE t ≠ 0 → v = .slice none 0 0) := by
  obtain ⟨Am, cm, hvm⟩ : ∃ A c, t.vms = .slice A t.ms.length c := by obtain ⟨A, c, e, _⟩ := hr.ms; exact ⟨A, c, e⟩
  obtain ⟨As, cs, hvs⟩ := hr.sig.form
  have hms := hr.ms
  rw [hvm] at hms
  have HMS := Lib.hid (fun (Z : World) (hz : Below w.heap.size w Z) => msgs_range hms hz)
  have HMR := Lib.hid (fun (Z : World) (hz : Below w.heap.size w Z) (k : Nat) (hk : k < t.ms.length) => (hr.msr _ (List.getElem_mem hk)).keptM (kept_belowM hz))
  have HMR0 := Lib.hid hr.msr
  have hcl : t.cells = #[.string t.sg, .int .u64 (t.seq : Int), .int .u64 (t.gas : Int), .int .u64 (t.fee.a : Int), .int .u64 (t.fee.b : Int), .int .u64 (t.fee.c : Int), .int .u64 (t.fee.d : Int), .slice Am t.ms.length cm, .slice As t.sig.length cs] := by rw [TxV.cells, hvm, hvs]
  have HR := Lib.hid hr
  obtain ⟨n, hnn⟩ : ∃ n, n = t.ms.length := ⟨_, rfl⟩
  have ha0 : Below w.heap.size w (w.alloc (.cells #[.string t.sg, .int .u64 (t.seq : Int), .int .u64 (t.gas : Int), .int .u64 (t.fee.a : Int), .int .u64 (t.fee.b : Int), .int .u64 (t.fee.c : Int), .int .u64 (t.fee.d : Int), .slice Am t.ms.length cm, .slice As t.sig.length cs] 48)) := (Below.refl _ _).alloc (Nat.le_refl _) _
  have hbox := heap_alloc_new w (.cells #[.string t.sg, .int .u64 (t.seq : Int), .int .u64 (t.gas : Int), .int .u64 (t.fee.a : Int), .int .u64 (t.fee.b : Int), .int .u64 (t.fee.c : Int), .int .u64 (t.fee.d : Int), .slice Am t.ms.length cm, .slice As t.sig.length cs] 48)
  have hsz1 : (w.alloc (.cells #[.string t.sg, .int .u64 (t.seq : Int), .int .u64 (t.gas : Int), .int .u64 (t.fee.a : Int), .int .u64 (t.fee.b : Int), .int .u64 (t.fee.c : Int), .int .u64 (t.fee.d : Int), .slice Am t.ms.length cm, .slice As t.sig.length cs] 48)).heap.size = w.heap.size + 1 := by simp
  have hF := fits_tx _ t (hr.up ha0)
  rw [hcl] at hF ⊢
  obtain ⟨fe, hfe⟩ : ∃ fe, fe = fitsE t := ⟨_, rfl⟩
  rw [← hfe] at hF
  have HFE := Lib.hid hfe
  obtain ⟨rs, hrs⟩ : ∃ rs, rs = encE t := ⟨_, rfl⟩
  rw [← hrs]
  have HRS := Lib.hid hrs
  have HSG := Lib.hid hvs
  rw [← hnn] at hbox ha0 hsz1 hF ⊢
  have HNN := Lib.hid hnn
  generalize hW1 : w.alloc (.cells #[.string t.sg, .int .u64 (t.seq : Int), .int .u64 (t.gas : Int), .int .u64 (t.fee.a : Int), .int .u64 (t.fee.b : Int), .int .u64 (t.fee.c : Int), .int .u64 (t.fee.d : Int), .slice Am n cm, .slice As t.sig.length cs] 48) = W1 at *
  have HC : Hid (∀ Z, Below W1.heap.size W1 Z → ∀ (i : Nat) (u : Value), (#[.string t.sg, .int .u64 (t.seq : Int), .int .u64 (t.gas : Int), .int .u64 (t.fee.a : Int), .int .u64 (t.fee.b : Int), .int .u64 (t.fee.c : Int), .int .u64 (t.fee.d : Int), .slice Am n cm, .slice As t.sig.length cs] : Array Value)[i]? = some u → Z.cell? ⟨w.heap.size, i, none⟩ = some u) := Lib.hid fun Z hz i u hu => (hz.cell (p := ⟨_, i, none⟩) (by rw [hsz1]; exact Nat.lt_succ_self _)).trans ((blk_cell hbox i).trans hu)
  have HOLD : Hid (∀ Z, Below W1.heap.size W1 Z → Below w.heap.size w Z) := Lib.hid fun Z hz => ha0.trans (hz.mono (by rw [hsz1]; exact Nat.le_succ _))
  have HS1 : Hid (w.heap.size < W1.heap.size) := Lib.hid (by rw [hsz1]; exact Nat.lt_succ_self _)
  generalize hg1 : w.heap.size = g0 at *
  have HGG := Lib.hid hg1
  have c0 := HC.out _ (Below.refl _ _) 0 (.string t.sg) rfl
  have c1 := HC.out _ (Below.refl _ _) 1 (.int .u64 (t.seq : Int)) rfl
  have c2 := HC.out _ (Below.refl _ _) 2 (.int .u64 (t.gas : Int)) rfl
  have c3 := HC.out _ (Below.refl _ _) 3 (.int .u64 (t.fee.a : Int)) rfl
  have c4 := HC.out _ (Below.refl _ _) 4 (.int .u64 (t.fee.b : Int)) rfl
  have c5 := HC.out _ (Below.refl _ _) 5 (.int .u64 (t.fee.c : Int)) rfl
  have c6 := HC.out _ (Below.refl _ _) 6 (.int .u64 (t.fee.d : Int)) rfl
  have c7 := HC.out _ (Below.refl _ _) 7 (.slice Am n cm) rfl
  have c8 := HC.out _ (Below.refl _ _) 8 (.slice As t.sig.length cs) rfl
  have HFT := Lib.hid hF
  clear hF hbox ha0 hsz1 hms hr hvm hvs hcl hnn hrs hfe
  go_enter Try.func24, Try.ntmps24
  go_wp2_with fail
  try rw [hW1]
  try rw [hg1]
  refine HFT.out.mono ?_
  rintro e w2 ⟨rfl, hb2⟩
  clear HFT hW1 c0 c1 c2 c3 c4 c5 c6 c7 c8 hg1
  by_cases hf0 : fe = 0
  case neg =>
    have f1 : (fe != 0) = true := by simpa using hf0
    have hres := Lib.hid (show rs = fe by rw [HRS.out, HFE.out]; unfold encE; rw [if_neg (by rw [← HFE.out]; exact hf0)])
    have HFN := Lib.hid (And.intro (HOLD.out _ hb2) hf0)
    clear hf0
    go_wp2_with fail
    go_ret2
    refine ⟨.slice none 0 0, ?_, HFN.out.1, fun h => absurd (hres.out.symm.trans h) HFN.out.2, fun _ => rfl⟩
    rw [hres.out]
    rfl
  subst hf0
  have HFT : Hid (fitsE t = 0) := Lib.hid HFE.out.symm
  have HOK := Lib.hid (fitsE_ok HFT.out)
  have HB2 := Lib.hid hb2
  obtain ⟨X0, hXn⟩ : ∃ X : World, X = w2.alloc (.cells #[.slice none 0 0] 81) := ⟨_, rfl⟩
  have hX := WrX.new w2
  rw [← hXn] at hX
  have hbx : Below w2.heap.size w2 X0 := by rw [hXn]; exact (Below.refl _ _).alloc (Nat.le_refl _) _
  have HGW : Hid (W1.heap.size ≤ w2.heap.size ∧ Below W1.heap.size W1 X0) := Lib.hid ⟨hb2.size, below_chain hb2 hb2.size hbx⟩
  generalize hg : w2.heap.size = g at *
  generalize hB : g + 1 = B at *
  obtain ⟨F, hFF⟩ : ∃ F : Nat → Prop, F = fun k => k = g := ⟨_, rfl⟩
  rw [← hFF] at hX
  have HCX : Hid (∀ Z L, WrX F X0 Z B g L → Below W1.heap.size W1 Z) := Lib.hid fun Z L hz => HGW.out.2.trans (hz.below.mono HGW.out.1)
  have HBB : Hid (w.heap.size ≤ g ∧ g0 ≤ B) := Lib.hid (by have := HGW.out.1; have := HS1.out; have := HGG.out; omega)
  obtain ⟨M0, hM0⟩ : ∃ M : List UInt8, M = [] := ⟨_, rfl⟩
  rw [← hM0] at hX
  have HM0 := Lib.hid hM0
  have HL0 : Hid (M0.length ≤ 0) := Lib.hid (by rw [hM0]; exact Nat.le_refl _)
  have hX0 := hX
  clear hbx hb2 hFF hM0 hX
  have f0 : (((0 : Int) != 0) = true) = False := by simp
  go_upto_region 5 with fail
  try rw [← hXn]
  try rw [hg]
  clear hXn f0 hg hB
  have c0 := HC.out _ (HCX.out _ _ hX0) 0 (.string t.sg) rfl
  have D := Lib.hid (wxt_any hX0 t.sg HR.out.sg (by have := HL0.out; omega))
  clear hX0
  go_wp2_with fail
  refine D.out.mono ?_
  rintro e y1 ⟨rfl, Y⟩
  obtain ⟨M1, hM⟩ : ∃ M1, M1 = M0 ++ encW t.sg := ⟨_, rfl⟩
  have hX1 : WrX F X0 y1 B g M1 := by rw [hM]; exact Y
  have HL1 : Hid (M1.length ≤ 65539) := Lib.hid (by rw [hM, List.length_append]; have := HL0.out; have := encW_len t.sg; omega)
  have HM1 := Lib.hid hM
  clear hM Y D c0
  have c1 := HC.out _ (HCX.out _ _ hX1) 1 (.int .u64 (t.seq : Int)) rfl
  have D := Lib.hid (wxn_any hX1 t.seq HR.out.seq (by have := HL1.out; omega))
  clear hX1
  go_wp2_with fail
  refine D.out.mono ?_
  rintro e y2 ⟨rfl, Y⟩
  obtain ⟨M2, hM⟩ : ∃ M2, M2 = M1 ++ be t.seq 8 := ⟨_, rfl⟩
  have hX2 : WrX F X0 y2 B g M2 := by rw [hM]; exact Y
  have HL2 : Hid (M2.length ≤ 65547) := Lib.hid (by rw [hM, List.length_append]; have := HL1.out; have := be_length t.seq 8; omega)
  have HM2 := Lib.hid hM
  clear hM Y D c1
  have c2 := HC.out _ (HCX.out _ _ hX2) 2 (.int .u64 (t.gas : Int)) rfl
  have D := Lib.hid (wxn_any hX2 t.gas HR.out.gas (by have := HL2.out; omega))
  clear hX2
  go_wp2_with fail
  refine D.out.mono ?_
  rintro e y3 ⟨rfl, Y⟩
  obtain ⟨M3, hM⟩ : ∃ M3, M3 = M2 ++ be t.gas 8 := ⟨_, rfl⟩
  have hX3 : WrX F X0 y3 B g M3 := by rw [hM]; exact Y
  have HL3 : Hid (M3.length ≤ 65555) := Lib.hid (by rw [hM, List.length_append]; have := HL2.out; have := be_length t.gas 8; omega)
  have HM3 := Lib.hid hM
  clear hM Y D c2
  have c3 := HC.out _ (HCX.out _ _ hX3) 3 (.int .u64 (t.fee.a : Int)) rfl
  have c4 := HC.out _ (HCX.out _ _ hX3) 4 (.int .u64 (t.fee.b : Int)) rfl
  have c5 := HC.out _ (HCX.out _ _ hX3) 5 (.int .u64 (t.fee.c : Int)) rfl
  have c6 := HC.out _ (HCX.out _ _ hX3) 6 (.int .u64 (t.fee.d : Int)) rfl
  have D := Lib.hid (wxu_any hX3 t.fee HR.out.fee (by have := HL3.out; omega))
  clear hX3
  go_wp2_with fail
  refine D.out.mono ?_
  rintro e y4 ⟨rfl, Y⟩
  obtain ⟨M4, hM⟩ : ∃ M4, M4 = M3 ++ encU t.fee := ⟨_, rfl⟩
  have hX4 : WrX F X0 y4 B g M4 := by rw [hM]; exact Y
  have HL4 : Hid (M4.length ≤ 131094) := Lib.hid (by rw [hM, List.length_append]; have := HL3.out; have := encU_len t.fee; omega)
  have HM4 := Lib.hid hM
  clear hM Y D c3 c4 c5 c6
  have hn8 : n ≤ 8 := by have := HOK.out.1; have := HNN.out; omega
  have hw0 := u64_nat n (by omega)
  have c7 := HC.out _ (HCX.out _ _ hX4) 7 (.slice Am n cm) rfl
  have D := Lib.hid (wxn_any hX4 n (by omega) (by have := HL4.out; omega))
  clear hX4
  go_wp2_with fail
  refine D.out.mono ?_
  rintro e y5 ⟨rfl, Y⟩
  obtain ⟨M5, hM⟩ : ∃ M5, M5 = M4 ++ be n 8 := ⟨_, rfl⟩
  have hX5 : WrX F X0 y5 B g M5 := by rw [hM]; exact Y
  have HL5 : Hid (M5.length ≤ 131102) := Lib.hid (by rw [hM, List.length_append]; have := HL4.out; have := be_length n 8; omega)
  have HM5 := Lib.hid hM
  clear hM Y D c7
  clear hw0
  have c7 := HC.out _ (HCX.out _ _ hX5) 7 (.slice Am n cm) rfl
  have HX0 := Lib.hid hX5
  clear hX5
  have HLN : Hid (∀ k, ((t.ms.take k).map (fun m => encB (encM m))).flatten.length ≤ 524312) := Lib.hid fun k => by
    have := flatX_len (fun m => encB (encM m)) 65539 (t.ms.take k) fun x _ => encB_lenW _
    have h2 : (t.ms.take k).length ≤ 8 := by rw [List.length_take]; have := HOK.out.1; omega
    omega
  have HNX := Lib.hid (fun (k : Nat) (hk : k < t.ms.length) => flatX_take (fun m => encB (encM m)) t.ms k hk)
  go_upto_block 0 with fail
  clear c7
  go_cut [] (fun wx => Hid (WrX F X0 wx B g (M5 ++ (t.ms.map (fun m => encB (encM m))).flatten) ∧ (∀ k (hk : k < t.ms.length), (encM t.ms[k]).length ≤ 65535)))
  case first =>
    go_wp2_with fail
    go_loopw [34] (fun i wr => ∃ k : Nat, k ≤ n ∧ i = .int .i64 (k : Int) ∧ Hid (WrX F X0 wr B g (M5 ++ ((t.ms.take k).map (fun m => encB (encM m))).flatten) ∧ ∀ j (h : j < t.ms.length), j < k → (encM t.ms[j]).length ≤ 65535))
      (fun i _ => n - (intOf i).toNat)
    case atStart => exact ⟨0, Nat.zero_le _, rfl, Lib.hid ⟨by simpa using HX0.out, fun j _ h => absurd h (by omega)⟩⟩
    case round =>
      clear HX0
      obtain ⟨k, hk, rfl, HX⟩ := hrel
      by_cases hlt : k < n
      · have hkl : k < t.ms.length := by have := HNN.out; omega
        obtain ⟨b, o, rfl, hrng⟩ := HMS.out wr (HOLD.out _ (HCX.out _ _ HX.out.1)) k hkl
        have hm0 := HMR.out wr (HOLD.out _ (HCX.out _ _ HX.out.1)) k hkl
        have hmw := HMR0.out _ (List.getElem_mem hkl)
        have hmf := HOK.out.2.1 _ (List.getElem_mem hkl)
        have i1 : (0 : Int) ≤ (k : Int) := by omega
        have i2 : (k : Int) < (n : Int) := by omega
        have hnx := HNX.out k hkl
        have hkn := HLN.out k
        have HK : Hid (((encM t.ms[k]).length ≤ 65535 → ∀ j (h : j < t.ms.length), j < k + 1 → (encM t.ms[j]).length ≤ 65535) ∧ (¬ (encM t.ms[k]).length ≤ 65535 → rs = 22)) := Lib.hid ⟨fun h8 j h hj => by
          by_cases hjk : j = k
          · subst hjk; exact h8
          · exact HX.out.2 j h (by omega), fun h => HRS.out.trans (encE_22 HFT.out k hkl h)⟩
        generalize t.ms[k] = m at *
        obtain ⟨MK, hMK⟩ : ∃ MK, MK = (M5 ++ ((t.ms.take k).map (fun m => encB (encM m))).flatten) := ⟨_, rfl⟩
        have hMN : M5 ++ ((t.ms.take (k + 1)).map (fun m => encB (encM m))).flatten = MK ++ encB (encM m) := by rw [hnx, hMK, List.append_assoc]
        have hle : MK.length ≤ 10000000 := by rw [hMK, List.length_append]; have := HL5.out; omega
        rw [← hMK] at HX
        have HMN := Lib.hid hMN
        have HLE := Lib.hid hle
        clear hMK hnx hkn hMN hle
        obtain ⟨SL, hSL⟩ : ∃ L : List Value, L = m.cells := ⟨_, rfl⟩
        rw [← hSL] at hrng
        have hl62 : SL.length = 62 := by rw [hSL]; rfl
        have HRNG := Lib.hid hrng
        have HINF : Hid ((Try.prog.info? 78).map (·.size) = some SL.length) := Lib.hid (by rw [hl62]; kernel_rfl)
        have HONE : Hid (SL.toArray.all (·.oneCell') = true) := Lib.hid (by rw [hSL]; exact m.one hm0)
        have HSL := Lib.hid hSL
        have HTH : Hid ((wr.alloc (.cells #[.int .i64 0, .string ⟨#[]⟩, .string ⟨#[]⟩, .int .u64 0, .int .u64 0, .int .u64 0, .int .u64 0, .string ⟨#[]⟩, .string ⟨#[]⟩, .string ⟨#[]⟩, .string ⟨#[]⟩, .string ⟨#[]⟩, .string ⟨#[]⟩, .string ⟨#[]⟩, .string ⟨#[]⟩, .string ⟨#[]⟩, .bool false, .string ⟨#[]⟩, .int .u64 0, .int .u64 0, .slice none 0 0, .slice none 0 0, .slice none 0 0, .string ⟨#[]⟩, .int .u64 0, .int .u64 0, .slice none 0 0, .slice none 0 0, .slice none 0 0, .slice none 0 0, .slice none 0 0, .slice none 0 0, .slice none 0 0, .slice none 0 0, .int .u64 0, .int .u64 0, .int .u64 0, .int .u64 0, .string ⟨#[]⟩, .string ⟨#[]⟩, .int .u64 0, .slice none 0 0, .int .u64 0, .int .u64 0, .slice none 0 0, .int .i64 0, .slice none 0 0, .int .u64 0, .string ⟨#[]⟩, .int .u64 0, .int .u64 0, .int .u64 0, .int .u64 0, .int .u64 0, .int .u64 0, .int .u64 0, .int .u64 0, .int .u64 0, .int .u64 0, .int .u64 0, .int .u64 0, .slice none 0 0] 78)).there wr.heap.size 0 SL.toArray.size) := Lib.hid (there_newM _ _ _ _ (by simp [hl62]))
        have hrg0 := range_newM wr #[.int .i64 0, .string ⟨#[]⟩, .string ⟨#[]⟩, .int .u64 0, .int .u64 0, .int .u64 0, .int .u64 0, .string ⟨#[]⟩, .string ⟨#[]⟩, .string ⟨#[]⟩, .string ⟨#[]⟩, .string ⟨#[]⟩, .string ⟨#[]⟩, .string ⟨#[]⟩, .string ⟨#[]⟩, .string ⟨#[]⟩, .bool false, .string ⟨#[]⟩, .int .u64 0, .int .u64 0, .slice none 0 0, .slice none 0 0, .slice none 0 0, .string ⟨#[]⟩, .int .u64 0, .int .u64 0, .slice none 0 0, .slice none 0 0, .slice none 0 0, .slice none 0 0, .slice none 0 0, .slice none 0 0, .slice none 0 0, .slice none 0 0, .int .u64 0, .int .u64 0, .int .u64 0, .int .u64 0, .string ⟨#[]⟩, .string ⟨#[]⟩, .int .u64 0, .slice none 0 0, .int .u64 0, .int .u64 0, .slice none 0 0, .int .i64 0, .slice none 0 0, .int .u64 0, .string ⟨#[]⟩, .int .u64 0, .int .u64 0, .int .u64 0, .int .u64 0, .int .u64 0, .int .u64 0, .int .u64 0, .int .u64 0, .int .u64 0, .int .u64 0, .int .u64 0, .int .u64 0, .slice none 0 0] 78 SL (by rw [hl62]; exact Nat.le_refl _)
        have hb0 := below_newM wr #[.int .i64 0, .string ⟨#[]⟩, .string ⟨#[]⟩, .int .u64 0, .int .u64 0, .int .u64 0, .int .u64 0, .string ⟨#[]⟩, .string ⟨#[]⟩, .string ⟨#[]⟩, .string ⟨#[]⟩, .string ⟨#[]⟩, .string ⟨#[]⟩, .string ⟨#[]⟩, .string ⟨#[]⟩, .string ⟨#[]⟩, .bool false, .string ⟨#[]⟩, .int .u64 0, .int .u64 0, .slice none 0 0, .slice none 0 0, .slice none 0 0, .string ⟨#[]⟩, .int .u64 0, .int .u64 0, .slice none 0 0, .slice none 0 0, .slice none 0 0, .slice none 0 0, .slice none 0 0, .slice none 0 0, .slice none 0 0, .slice none 0 0, .int .u64 0, .int .u64 0, .int .u64 0, .int .u64 0, .string ⟨#[]⟩, .string ⟨#[]⟩, .int .u64 0, .slice none 0 0, .int .u64 0, .int .u64 0, .slice none 0 0, .int .i64 0, .slice none 0 0, .int .u64 0, .string ⟨#[]⟩, .int .u64 0, .int .u64 0, .int .u64 0, .int .u64 0, .int .u64 0, .int .u64 0, .int .u64 0, .int .u64 0, .int .u64 0, .int .u64 0, .int .u64 0, .int .u64 0, .slice none 0 0] 78 SL
        have hgs : wr.heap.size < ((wr.alloc (.cells #[.int .i64 0, .string ⟨#[]⟩, .string ⟨#[]⟩, .int .u64 0, .int .u64 0, .int .u64 0, .int .u64 0, .string ⟨#[]⟩, .string ⟨#[]⟩, .string ⟨#[]⟩, .string ⟨#[]⟩, .string ⟨#[]⟩, .string ⟨#[]⟩, .string ⟨#[]⟩, .string ⟨#[]⟩, .string ⟨#[]⟩, .bool false, .string ⟨#[]⟩, .int .u64 0, .int .u64 0, .slice none 0 0, .slice none 0 0, .slice none 0 0, .string ⟨#[]⟩, .int .u64 0, .int .u64 0, .slice none 0 0, .slice none 0 0, .slice none 0 0, .slice none 0 0, .slice none 0 0, .slice none 0 0, .slice none 0 0, .slice none 0 0, .int .u64 0, .int .u64 0, .int .u64 0, .int .u64 0, .string ⟨#[]⟩, .string ⟨#[]⟩, .int .u64 0, .slice none 0 0, .int .u64 0, .int .u64 0, .slice none 0 0, .int .i64 0, .slice none 0 0, .int .u64 0, .string ⟨#[]⟩, .int .u64 0, .int .u64 0, .int .u64 0, .int .u64 0, .int .u64 0, .int .u64 0, .int .u64 0, .int .u64 0, .int .u64 0, .int .u64 0, .int .u64 0, .int .u64 0, .slice none 0 0] 78)).setCells wr.heap.size 0 SL).heap.size := by rw [size_setM]; simp
        have hXw := HX.out.1.up hb0
        obtain ⟨u0, hu0⟩ : ∃ u0, u0 = (wr.alloc (.cells #[.int .i64 0, .string ⟨#[]⟩, .string ⟨#[]⟩, .int .u64 0, .int .u64 0, .int .u64 0, .int .u64 0, .string ⟨#[]⟩, .string ⟨#[]⟩, .string ⟨#[]⟩, .string ⟨#[]⟩, .string ⟨#[]⟩, .string ⟨#[]⟩, .string ⟨#[]⟩, .string ⟨#[]⟩, .string ⟨#[]⟩, .bool false, .string ⟨#[]⟩, .int .u64 0, .int .u64 0, .slice none 0 0, .slice none 0 0, .slice none 0 0, .string ⟨#[]⟩, .int .u64 0, .int .u64 0, .slice none 0 0, .slice none 0 0, .slice none 0 0, .slice none 0 0, .slice none 0 0, .slice none 0 0, .slice none 0 0, .slice none 0 0, .int .u64 0, .int .u64 0, .int .u64 0, .int .u64 0, .string ⟨#[]⟩, .string ⟨#[]⟩, .int .u64 0, .slice none 0 0, .int .u64 0, .int .u64 0, .slice none 0 0, .int .i64 0, .slice none 0 0, .int .u64 0, .string ⟨#[]⟩, .int .u64 0, .int .u64 0, .int .u64 0, .int .u64 0, .int .u64 0, .int .u64 0, .int .u64 0, .int .u64 0, .int .u64 0, .int .u64 0, .int .u64 0, .int .u64 0, .slice none 0 0] 78)).setCells wr.heap.size 0 SL := ⟨_, rfl⟩
        rw [← hu0] at hrg0 hb0 hgs hXw
        have hn2 := WrX.new u0
        have hba : Below u0.heap.size u0 (u0.alloc (.cells #[.slice none 0 0] 81)) := (Below.refl _ _).alloc (Nat.le_refl _) _
        have hr1 := range_belowM hrg0 hgs hba
        have hzz : Below w.heap.size w (u0.alloc (.cells #[.slice none 0 0] 81)) := by have h := HOLD.out _ (HCX.out _ _ (hXw.up hba)); rw [← HGG.out] at h; exact h
        have hg2 : w.heap.size ≤ u0.heap.size := by have h1 := HBB.out.1; have h2 := hXw.gB; have h3 := hXw.bW; omega
        have DM := wxmsg_any hn2 w hzz hg2 m hmw hmf (by simp)
        rw [← HSL.out] at DM
        have HDM := Lib.hid DM
        have HUP : Hid (∀ Z L, WrX (fun k => k = u0.heap.size) (u0.alloc (.cells #[.slice none 0 0] 81)) Z (u0.heap.size + 1) u0.heap.size L → WrX F X0 Z B g MK) := Lib.hid fun Z L hz => hXw.up (hba.trans hz.below)
        have HRG1 := Lib.hid hr1
        have HGR : Hid (wr.heap.size < u0.heap.size) := Lib.hid hgs
        clear hrng hl62 hSL hrg0 hb0 hgs hm0 hmw hmf hXw hn2 hba hr1 hzz hg2 DM HX
        subst hu0
        go_wp2_with (first
          | (with_reducible refine at_load 78 ?_; refine wpList_load_mid rfl 78 (.tmp 7) rfl wr.heap.size 0 rfl SL _ HRG1.out Try.underlying78 rfl HINF.out ?_)
          | (with_reducible refine at_load 78 ?_; refine wpList_load_mid rfl 78 (.tmp 36) rfl b (o + k * 62) rfl SL _ HRNG.out Try.underlying78 rfl HINF.out ?_)
          | (with_reducible refine at_store 78 ?_; refine wpList_store_mid rfl 78 (.tmp 7) (.tmp 37) rfl wr.heap.size 0 SL.toArray rfl rfl HTH.out (by have := HINF.out; simpa using this) HONE.out ?_))
        try simp only [List.toList_toArray]
        generalize (wr.alloc (.cells #[.int .i64 0, .string ⟨#[]⟩, .string ⟨#[]⟩, .int .u64 0, .int .u64 0, .int .u64 0, .int .u64 0, .string ⟨#[]⟩, .string ⟨#[]⟩, .string ⟨#[]⟩, .string ⟨#[]⟩, .string ⟨#[]⟩, .string ⟨#[]⟩, .string ⟨#[]⟩, .string ⟨#[]⟩, .string ⟨#[]⟩, .bool false, .string ⟨#[]⟩, .int .u64 0, .int .u64 0, .slice none 0 0, .slice none 0 0, .slice none 0 0, .string ⟨#[]⟩, .int .u64 0, .int .u64 0, .slice none 0 0, .slice none 0 0, .slice none 0 0, .slice none 0 0, .slice none 0 0, .slice none 0 0, .slice none 0 0, .slice none 0 0, .int .u64 0, .int .u64 0, .int .u64 0, .int .u64 0, .string ⟨#[]⟩, .string ⟨#[]⟩, .int .u64 0, .slice none 0 0, .int .u64 0, .int .u64 0, .slice none 0 0, .int .i64 0, .slice none 0 0, .int .u64 0, .string ⟨#[]⟩, .int .u64 0, .int .u64 0, .int .u64 0, .int .u64 0, .int .u64 0, .int .u64 0, .int .u64 0, .int .u64 0, .int .u64 0, .int .u64 0, .int .u64 0, .int .u64 0, .slice none 0 0] 78)).setCells wr.heap.size 0 SL = u0 at *
        generalize u0.alloc (.cells #[.slice none 0 0] 81) = u1 at *
        refine HDM.out.mono ?_
        rintro e w7 ⟨rfl, X7⟩
        have hX7 := HUP.out _ _ X7
        rw [List.nil_append] at X7
        obtain ⟨⟨v7, hb7, ho7, -⟩, -⟩ := X7
        obtain ⟨A7, c7, rfl⟩ := ho7.form
        have z0 := blk_cell hb7 0
        have HRD := Lib.hid ho7.rd
        have HX7 := Lib.hid hX7
        clear HDM HUP hb7 ho7 hX7
        generalize encM m = em at *
        obtain ⟨le, hle⟩ : ∃ le, le = em.length := ⟨_, rfl⟩
        rw [← hle] at z0 HRD HK
        by_cases h6 : le ≤ 65535
        · have h9 : ¬ (65535 : Int) < (le : Int) := by omega
          have HKK := Lib.hid (HK.out.1 h6)
          have DB := wxb_any HX7.out A7 le c7 em HRD.out (by have := HLE.out; omega)
          have HDB := Lib.hid DB
          clear HK h6 DB hle
          go_wp2_with fail
          refine HDB.out.mono ?_
          rintro e w8 ⟨rfl, X8⟩
          rw [← HMN.out] at X8
          have HNXT := Lib.hid (And.intro X8 HKK.out)
          clear HDB X8 z0
          go_wp2_with fail
          exact ⟨⟨k + 1, by omega, by go_num, HNXT⟩, by simp [intOf]; omega⟩
        · have h9 : (65535 : Int) < (le : Int) := by omega
          have hres := Lib.hid (HK.out.2 h6)
          have HFN := Lib.hid (HOLD.out _ (HCX.out _ _ HX7.out))
          clear HK h6 hle
          go_wp2_with fail
          go_ret2
          refine ⟨.slice none 0 0, ?_, HFN.out, fun h => absurd (hres.out.symm.trans h) (by decide), fun _ => rfl⟩
          rw [hres.out]
          rfl
      · have hk2 : ¬ (k : Int) < (n : Int) := by omega
        obtain rfl : k = n := by omega
        have HNXT : Hid (WrX F X0 wr B g (M5 ++ (t.ms.map (fun m => encB (encM m))).flatten) ∧ (∀ k (hk : k < t.ms.length), (encM t.ms[k]).length ≤ 65535)) := Lib.hid ⟨by have h := HX.out.1; rw [HNN.out, List.take_length] at h; exact h, fun j hj => HX.out.2 j hj (by rw [HNN.out]; exact hj)⟩
        clear HX
        go_wp2_with fail
        go_meet
        case rel => exact HNXT
  case rest =>
    have hX6 := hcut.out.1
    have hres := Lib.hid (HRS.out.trans (encE_0 HFT.out hcut.out.2))
    obtain ⟨M6, hM⟩ : ∃ M6, M6 = M5 ++ (t.ms.map (fun m => encB (encM m))).flatten := ⟨_, rfl⟩
    have HL6 : Hid (M6.length ≤ 3000000) := Lib.hid (by rw [hM, List.length_append]; have := HL5.out; have h := HLN.out t.ms.length; rw [List.take_length] at h; omega)
    rw [← hM] at hX6
    have HM6 := Lib.hid hM
    clear hcut hM HX0 HLN HNX HMS HMR HMR0
    have c8 := HC.out _ (HCX.out _ _ hX6) 8 (.slice As t.sig.length cs) rfl
    have D := Lib.hid (wxb_any hX6 As _ cs t.sig (by have h0 := HR.out.sig; rw [HSG.out] at h0; have h := HOLD.out _ (HCX.out _ _ hX6); rw [← HGG.out] at h; exact h0.up (Nat.le_refl _) h) (by have := HL6.out; omega))
    clear hX6
    go_wp2_with fail
    refine D.out.mono ?_
    rintro e y7 ⟨rfl, Y⟩
    obtain ⟨M7, hM⟩ : ∃ M7, M7 = M6 ++ encB t.sig := ⟨_, rfl⟩
    have hX7 : WrX F X0 y7 B g M7 := by rw [hM]; exact Y
    have HL7 : Hid (M7.length ≤ 3065539) := Lib.hid (by rw [hM, List.length_append]; have := HL6.out; have := encB_lenW t.sig; omega)
    have HM7 := Lib.hid hM
    clear hM Y D c8
    have hfin : M7 = encTx t := by
      rw [HM7.out, HM6.out, HM5.out, HM4.out, HM3.out, HM2.out, HM1.out, HM0.out]
      rw [HNN.out]
      simp only [encTx, List.append_assoc, List.nil_append]
    have HFIN := Lib.hid (HOLD.out _ (HCX.out _ _ hX7))
    obtain ⟨⟨v, hb, ho, -⟩, -⟩ := hX7
    rw [hfin] at ho
    have z0 := blk_cell hb 0
    have HOW := Lib.hid (ho.more HBB.out.2)
    obtain ⟨A7, c7, rfl⟩ := ho.form
    clear hfin hb ho
    go_wp2_with fail
    go_ret2
    refine ⟨_, ?_, HFIN.out, fun _ => HOW.out, fun h => absurd hres.out h⟩
    rw [hres.out]
    rfl
end Go.Proofs.Ytpcoonnfaoakhaa
namespace Go.Proofs.Ytpcoonnfaoakhaa
set_option maxRecDepth 100000
open Go Go.RowKit
set_option linter.unusedVariables false

def TxV.bare (t : TxV) : TxV := { t with vsig := .slice none 0 0, sig := [] }
theorem TxV.rd.bare {w : World} {t : TxV} (h : t.rd w) : t.bare.rd w := ⟨h.sg, h.seq, h.gas, h.fee, h.ms, h.msr, Rd.nil _ _, h.ml⟩
def encSgn (ch : ByteArray) (t : TxV) : List UInt8 := encW ch ++ encB (encTx t.bare)
set_option maxHeartbeats 40000000 in
theorem sb_any (w : World) (ch : ByteArray) (hch : ch.size ≤ maxLen) (t : TxV) (hr : t.rd w) :
    Calls Try.prog 26 #[.string ch, .agg t.cells] w fun e w' => ∃ v, e = .returned (.tuple #[v, .int .i64 (encE t.bare)]) ∧ Below w.heap.size w w' ∧ (encE t.bare = 0 → Own w' w.heap.size v (encSgn ch t)) ∧ (encE t.bare ≠ 0 → v = .slice none 0 0) := by
  obtain ⟨Am, cm, hvm⟩ : ∃ A c, t.vms = .slice A t.ms.length c := by obtain ⟨A, c, e, _⟩ := hr.ms; exact ⟨A, c, e⟩
  obtain ⟨As, cs, hvs⟩ := hr.sig.form
  have hcl : t.cells = #[.string t.sg, .int .u64 (t.seq : Int), .int .u64 (t.gas : Int), .int .u64 (t.fee.a : Int), .int .u64 (t.fee.b : Int), .int .u64 (t.fee.c : Int), .int .u64 (t.fee.d : Int), .slice Am t.ms.length cm, .slice As t.sig.length cs] := by rw [TxV.cells, hvm, hvs]
  have hcb : t.bare.cells = #[.string t.sg, .int .u64 (t.seq : Int), .int .u64 (t.gas : Int), .int .u64 (t.fee.a : Int), .int .u64 (t.fee.b : Int), .int .u64 (t.fee.c : Int), .int .u64 (t.fee.d : Int), .slice Am t.ms.length cm, .slice none 0 0] := by rw [TxV.cells]; show #[_, _, _, _, _, _, _, t.vms, _] = _; rw [hvm]; rfl
  have hx := hr.bare
  have hes0 : encSgn ch t = encW ch ++ encB (encTx t.bare) := rfl
  generalize t.bare = tb at *
  rw [hcl]
  generalize t.sig.length = sl at *
  obtain ⟨n, hnn⟩ : ∃ n, n = t.ms.length := ⟨_, rfl⟩
  rw [← hnn] at hcb ⊢
  have ha0 : Below w.heap.size w (w.alloc (.cells #[.string t.sg, .int .u64 (t.seq : Int), .int .u64 (t.gas : Int), .int .u64 (t.fee.a : Int), .int .u64 (t.fee.b : Int), .int .u64 (t.fee.c : Int), .int .u64 (t.fee.d : Int), .slice Am n cm, .slice none 0 0] 48)) := (Below.refl _ _).alloc (Nat.le_refl _) _
  have HF := encode_any _ tb (hx.up ha0)
  rw [hcb] at HF
  have HFE := Lib.hid HF
  have HA0 := Lib.hid ha0
  have HES : Hid (encSgn ch t = encW ch ++ encB (encTx tb)) := Lib.hid hes0
  obtain ⟨es, hes⟩ : ∃ es, es = encSgn ch t := ⟨_, rfl⟩
  rw [← hes] at HES ⊢
  obtain ⟨et, het⟩ : ∃ et, et = encTx tb := ⟨_, rfl⟩
  rw [← het] at HES HFE
  obtain ⟨fe, hfe⟩ : ∃ fe, fe = encE tb := ⟨_, rfl⟩
  rw [← hfe] at HFE ⊢
  clear hes0 HF hcl hcb hx hr hvm hvs hnn ha0 hes het hfe
  go_enter Try.func26, Try.ntmps26
  go_wp2_with fail
  refine HFE.out.mono ?_
  rintro e w2 ⟨v, rfl, hb2, ho, hn⟩
  have hB2 := Lib.hid (below_chain HA0.out HA0.out.size hb2)
  have HHS := Lib.hid HA0.out.size
  clear HFE hb2 HA0
  by_cases hf0 : fe = 0
  · have HO := Lib.hid (ho hf0)
    subst hf0
    clear ho hn
    go_wp2_with fail
    refine (T_any (.slice none 0 0) ch [] w2 (Rd.nil _ _) hch (by simp)).mono ?_
    rintro e w3 ⟨v3, rfl, ho3, hb3⟩
    have ho3' : Own w3 w2.heap.size v3 (encW ch) := by rw [List.nil_append] at ho3; exact ho3
    have HD := Lib.hid (B_any v3 v (encW ch) et w3 ho3'.rd ((HO.out.below hb3).rd) (by have := encW_len ch; omega))
    have HB3 := Lib.hid (And.intro (below_chain hB2.out hB2.out.size hb3) (Nat.le_trans hB2.out.size hb3.size))
    clear ho3 ho3' hb3
    go_wp2_with fail
    refine HD.out.mono ?_
    rintro e w4 ⟨v4, rfl, ho4, hb4⟩
    have HB4 := Lib.hid (below_chain HB3.out.1 HB3.out.1.size hb4)
    have HO4 : Hid (Own w4 w.heap.size v4 es) := Lib.hid (by
      have h := ho4.more HB3.out.2
      rw [List.append_assoc] at h
      rw [HES.out]
      exact h)
    clear HD hb4 ho4
    go_wp2_with fail
    go_ret2
    first | exact ⟨v4, rfl, HB4.out, HO4.out⟩ | exact ⟨v4, rfl, HB4.out, fun _ => HO4.out, fun h => absurd rfl h⟩
  · have f1 : (fe != 0) = true := by simpa using hf0
    have HF0 := Lib.hid hf0
    clear hf0 ho hn
    go_wp2_with fail
    go_ret2
    exact ⟨.slice none 0 0, rfl, hB2.out, fun h => absurd h HF0.out, fun _ => rfl⟩
end Go.Proofs.Ytpcoonnfaoakhaa
namespace Go.Proofs.Ytpcoonnfaoakhaa
set_option maxRecDepth 100000
open Go Go.RowKit
set_option linter.unusedVariables false

/-- old blocks but two are as they were -/
def KpX (w w' : World) (g h : Nat) : Prop := ∀ k, k < w.heap.size → k ≠ g → k ≠ h → w'.heap[k]? = w.heap[k]?
/-- a transaction's reader at block h over the reader at block g: what is to be read, its fault, and that of amounts -/
structure RdX (w : World) (lo g h : Nat) (rest : List UInt8) (f fx : Int) : Prop where
  b : w.heap[h]? = some (.cells #[.pointer (some ⟨g, 0, none⟩), .int .i64 fx] 89 (0, 0))
  l : lo ≤ h
  n : g < h
  r : Rdr w lo g rest f
section
variable {w w' : World} {lo g h : Nat} {rest rest' : List UInt8} {f f' fx : Int}
theorem RdX.up (X : RdX w lo g h rest f fx) (hb : Below w.heap.size w w') : RdX w' lo g h rest f fx :=
  ⟨(hb.block _ (blk_lt X.b)).trans X.b, X.l, X.n, X.r.below hb⟩
theorem RdX.step (X : RdX w lo g h rest f fx) (hr : Rdr w' lo g rest' f') (hg : w.grownBy w' (some g)) : RdX w' lo g h rest' f' fx ∧ Below lo w w' ∧ KpX w w' g h :=
  ⟨⟨(hg.block h (blk_lt X.b) (fun e => by injection e with e; have := X.n; omega)).trans X.b, X.l, X.n, hr⟩, below_of_grownBy hg X.r.from_ X.r.lt, fun k hk h1 _ => hg.block k hk (fun e => h1 (Option.some.inj e))⟩
theorem RdX.setAway (X : RdX w lo g h rest f fx) (b i : Nat) (v : Value) (hb : h < b) : RdX (w.setCell ⟨b, i, none⟩ v) lo g h rest f fx :=
  ⟨((grown_setR w b i v).block h (blk_lt X.b) (fun e => by injection e with e; omega)).trans X.b, X.l, X.n, X.r.grown (grown_setR w b i v) (.inr (by have := X.n; omega))⟩
theorem rxt_any (X : RdX w lo g h rest f fx) : Calls Try.prog 44 #[.pointer (some ⟨h, 0, none⟩)] w fun e w' => e = .returned (.string ⟨(rB rest f).1.toArray⟩) ∧ RdX w' lo g h (rB rest f).2.1 (rB rest f).2.2 fx ∧ Below lo w w' ∧ KpX w w' g h := by
  have z0 := blk_cell X.b 0
  have HT := Lib.hid (rdT_any X.r)
  have HX := Lib.hid X
  clear X
  generalize rB rest f = Q at *
  go_enter Try.func44, Try.ntmps44
  go_wp2_with fail
  refine HT.out.mono ?_
  rintro e w5 ⟨rfl, hr, hg⟩
  have HS := Lib.hid (HX.out.step hr hg)
  clear hr hg
  go_wp2_with fail
  go_ret
  exact ⟨rfl, HS.out⟩
theorem rxn_any (X : RdX w lo g h rest f fx) : Calls Try.prog 45 #[.pointer (some ⟨h, 0, none⟩)] w fun e w' => e = .returned (.int .u64 ((rN rest f).1 : Nat)) ∧ RdX w' lo g h (rN rest f).2.1 (rN rest f).2.2 fx ∧ Below lo w w' ∧ KpX w w' g h := by
  have z0 := blk_cell X.b 0
  have HT := Lib.hid (rN_any X.r)
  have HX := Lib.hid X
  clear X
  generalize rN rest f = Q at *
  go_enter Try.func45, Try.ntmps45
  go_wp2_with fail
  refine HT.out.mono ?_
  rintro e w5 ⟨rfl, hr, hg⟩
  have HS := Lib.hid (HX.out.step hr hg)
  clear hr hg
  go_wp2_with fail
  go_ret
  exact ⟨rfl, HS.out⟩
theorem rxb_any (X : RdX w lo g h rest f fx) : Calls Try.prog 49 #[.pointer (some ⟨h, 0, none⟩)] w fun e w' => ∃ v, e = .returned v ∧ Own w' w.heap.size v (rB rest f).1 ∧ RdX w' lo g h (rB rest f).2.1 (rB rest f).2.2 fx ∧ Below lo w w' ∧ KpX w w' g h := by
  have z0 := blk_cell X.b 0
  have HT := Lib.hid (rdB_any X.r)
  have HX := Lib.hid X
  clear X
  generalize rB rest f = Q at *
  go_enter Try.func49, Try.ntmps49
  go_wp2_with fail
  refine HT.out.mono ?_
  rintro e w5 ⟨v5, rfl, ho, hr, hg⟩
  have HS := Lib.hid (HX.out.step hr hg)
  have HO := Lib.hid ho
  obtain ⟨A5, c5, rfl⟩ := ho.form
  clear hr hg ho
  go_wp2_with fail
  go_ret
  exact ⟨_, rfl, HO.out, HS.out⟩
theorem rxc_any (X : RdX w lo g h rest f 0) (most : Int) (hm : most ≤ 9223372036854775807) (hm' : -9223372036854775808 ≤ most) : Calls Try.prog 47 #[.pointer (some ⟨h, 0, none⟩), .int .i64 most] w fun e w' => e = .returned (.int .i64 (rC most rest f).1) ∧ RdX w' lo g h (rC most rest f).2.1 (rC most rest f).2.2 0 ∧ Below lo w w' ∧ KpX w w' g h := by
  have z0 := blk_cell X.b 0
  have z1 := blk_cell X.b 1
  have HT := Lib.hid (rdC_any X.r most hm hm')
  have HX := Lib.hid X
  clear X
  generalize rC most rest f = Q at *
  go_enter Try.func47, Try.ntmps47
  go_wp2_with fail
  refine HT.out.mono ?_
  rintro e w5 ⟨rfl, hr, hg⟩
  have HS := Lib.hid (HX.out.step hr hg)
  clear hr hg
  go_wp2_with fail
  go_ret
  exact ⟨rfl, HS.out⟩
theorem rxerr_any (X : RdX w lo g h rest f 0) : Calls Try.prog 50 #[.pointer (some ⟨h, 0, none⟩)] w fun e w' => e = .returned (.int .i64 f) ∧ w = w' := by
  have z0 := blk_cell X.b 0
  have z1 := blk_cell X.b 1
  have HT := Lib.hid (rdErr_any X.r)
  clear X
  go_enter Try.func50, Try.ntmps50
  go_wp2_with fail
  refine HT.out.mono ?_
  rintro e w5 ⟨rfl, rfl⟩
  go_wp2_with fail
  go_ret
  exact ⟨rfl, rfl⟩
theorem rxend_any (X : RdX w lo g h rest f 0) : Calls Try.prog 51 #[.pointer (some ⟨h, 0, none⟩)] w fun e w' => e = .returned (.int .i64 (rEnd rest f)) ∧ w = w' := by
  have z0 := blk_cell X.b 0
  have z1 := blk_cell X.b 1
  have HT := Lib.hid (rdEnd_any X.r)
  clear X
  generalize rEnd rest f = Q at *
  go_enter Try.func51, Try.ntmps51
  go_wp2_with fail
  refine HT.out.mono ?_
  rintro e w5 ⟨rfl, rfl⟩
  go_wp2_with fail
  go_ret
  exact ⟨rfl, rfl⟩
set_option maxHeartbeats 8000000 in
theorem rxu_ok (X : RdX w lo g h rest f 0) (hlw : lo ≤ w.heap.size) (hf : (rB rest f).2.2 = 0) : Calls Try.prog 46 #[.pointer (some ⟨h, 0, none⟩)] w fun e w' => e = .returned (fromU (rB rest f).1).1.val ∧ RdX w' lo g h (rB rest f).2.1 0 (fromU (rB rest f).1).2 ∧ Below lo w w' ∧ KpX w w' g h := by
  have ha := (Below.refl w.heap.size w).alloc (Nat.le_refl _) (.cells #[.int .u64 0, .int .u64 0, .int .u64 0, .int .u64 0] 45)
  have hbx := heap_alloc_new w (.cells #[.int .u64 0, .int .u64 0, .int .u64 0, .int .u64 0] 45)
  have hs0 : (w.alloc (.cells #[.int .u64 0, .int .u64 0, .int .u64 0, .int .u64 0] 45)).heap.size = w.heap.size + 1 := by simp
  have X1 := X.up ha
  have hlh : h < w.heap.size := blk_lt X.b
  have hgw : g < w.heap.size := X.r.lt
  have hll := X.l
  have hlg := X.r.from_
  obtain ⟨W1, hW1⟩ : ∃ W1, W1 = w.alloc (.cells #[.int .u64 0, .int .u64 0, .int .u64 0, .int .u64 0] 45) := ⟨_, rfl⟩
  rw [← hW1] at ha hbx X1 hs0
  have HB := Lib.hid (rxb_any X1) 
  have HT := Lib.hid (rdB_any X1.r)
  have z0 := blk_cell X1.b 0
  generalize rB rest f = Q at *
  obtain ⟨bs, rest', f'⟩ := Q
  dsimp only at hf HB HT ⊢
  subst hf
  have HU := Lib.hid (fun (Z : World) (v : Value) (hr : Rd Z Z.heap.size v bs) => from_any v bs Z hr)
  generalize fromU bs = U at *
  obtain ⟨⟨xa, xb, xc, xd⟩, ex⟩ := U
  have HX1 := Lib.hid (And.intro X1 (And.intro hbx (And.intro ha hs0)))
  have HLO := Lib.hid (And.intro hlh (And.intro hgw (And.intro hll (And.intro hlg (And.intro hlw X.n)))))
  clear X X1 hbx ha HB hs0
  go_enter Try.func46, Try.ntmps46
  go_upto_region 1 with fail
  try rw [← hW1]
  clear hW1
  go_wp2_with fail
  refine HT.out.mono ?_
  rintro e w5 ⟨v5, rfl, ho, hr, hg⟩
  have X5 := (HX1.out.1.step hr hg)
  have hb5 := (hg.block w.heap.size (blk_lt HX1.out.2.1) (fun e => by have := HLO.out.2.1; injection e with e; omega)).trans HX1.out.2.1
  have HE := Lib.hid (rxerr_any X5.1)
  have huu := HU.out w5 v5 ho.rd
  simp only [U4.val, U4.cells] at huu
  have HUU := Lib.hid huu
  clear huu
  have HX5 := Lib.hid (And.intro X5 hb5)
  obtain ⟨A5, c5, rfl⟩ := ho.form
  clear hr hg ho X5 hb5 HT z0
  go_wp2_with fail
  refine HE.out.mono ?_
  rintro e w6 ⟨rfl, rfl⟩
  go_wp2_with fail
  refine HUU.out.mono ?_
  rintro e w7 ⟨rfl, hb7⟩
  have X7 := HX5.out.1.1.up hb7
  have h27 := (hb7.block _ (blk_lt HX5.out.2)).trans HX5.out.2
  have ha7 := (Below.refl w7.heap.size w7).alloc (Nat.le_refl _) (.cells #[.int .u64 xa, .int .u64 xb, .int .u64 xc, .int .u64 xd] 45)
  have X8 := X7.up ha7
  have h28 := (ha7.block _ (blk_lt h27)).trans h27
  have hb8 := heap_alloc_new w7 (.cells #[.int .u64 xa, .int .u64 xb, .int .u64 xc, .int .u64 xd] 45)
  generalize hW8 : w7.alloc (.cells #[.int .u64 xa, .int .u64 xb, .int .u64 xc, .int .u64 xd] 45) = w8 at *
  generalize hg8 : w7.heap.size = g8 at *
  have hne8 : h ≠ g8 := fun e => by have := blk_lt X7.b; omega
  have HG8 := Lib.hid (show w.heap.size < g8 by rw [← hg8]; exact blk_lt h27)
  have hB8 : Below lo w w8 := by
    have h1 := HX1.out.2.2.1
    have h2 := HX5.out.1.2.1
    have hl := HLO.out.2.2.2.2.1
    have h3 : Below lo w w5 := (h1.mono hl).trans h2
    have h4 : Below lo w w7 := below_chain h3 (by have := h3.size; omega) hb7
    exact below_chain h4 (by have := h4.size; omega) (by rw [hg8]; exact ha7)
  have HB8 := Lib.hid hB8
  have HK8 : Hid (KpX w w8 g h) := Lib.hid fun k hk h1 h2 => by
    have e1 := HX1.out.2.2.1.block k hk
    have hk1 : k < W1.heap.size := by have := HX1.out.2.2.1.size; omega
    have e2 := HX5.out.1.2.2 k hk1 h1 h2
    have hk5 : k < w5.heap.size := by have := HX5.out.1.2.1.size; omega
    have e3 := hb7.block k hk5
    have hk7 : k < g8 := by have := hb7.size; omega
    exact (ha7.block k hk7).trans (e3.trans (e2.trans e1))
  clear h27 ha7 X7 hB8 hb7 HE HUU HU HX5
  have z1 := blk_cell X8.b 1
  have f1 := blk_free X8.b 1
  have z0 := blk_cell X8.b 0
  go_upto_region 6 with fail
  try rw [hW8]
  try rw [hg8]
  clear hW8 hg8 z0 z1 f1
  have hgs := grown_setR w8 h 1 (.int .i64 ex)
  have h29 := (hgs.block _ (blk_lt h28) (fun e => by have := HLO.out.1; injection e with e; omega)).trans h28
  have h2g := (hgs.block _ (blk_lt hb8) (fun e => by have := HLO.out.1; injection e with e; omega)).trans hb8
  have X9 : RdX (w8.setCell ⟨h, 1, none⟩ (.int .i64 ex)) lo g h rest' 0 ex := ⟨by simpa using blk_set X8.b 1 (.int .i64 ex), X8.l, X8.n, X8.r.grown hgs (.inr X8.n)⟩
  have HB9 := Lib.hid (HB8.out.setCell (p := ⟨h, 1, none⟩) HLO.out.2.2.1 (.int .i64 ex))
  generalize w8.setCell ⟨h, 1, none⟩ (.int .i64 ex) = w9 at *
  have y0 := blk_cell h2g 0
  have y1 := blk_cell h2g 1
  have y2 := blk_cell h2g 2
  have y3 := blk_cell h2g 3
  have x0 := blk_cell h29 0
  have x1 := blk_cell h29 1
  have x2 := blk_cell h29 2
  have x3 := blk_cell h29 3
  have f0 := blk_free h29 0
  have f1 := blk_free h29 1
  have f2 := blk_free h29 2
  have f3 := blk_free h29 3
  have HK9 : Hid (∀ k, k < w.heap.size → k ≠ g → k ≠ h → w9.heap[k]? = w.heap[k]?) := Lib.hid fun k hk h1 h2 => (hgs.block k (by have h7 := HG8.out; have := blk_lt h28; omega) (fun e => h2 (Option.some.inj e))).trans (HK8.out k hk h1 h2)
  have HX9 := Lib.hid (And.intro X9 h29)
  clear X9 h29 h2g hgs X8 h28 hb8 hne8
  go_wp2_with fail
  refine bodyPost_ret (v := .agg #[.int .u64 xa, .int .u64 xb, .int .u64 xc, .int .u64 xd]) ?_ rfl ⟨rfl, ?_, ?_, ?_⟩
  · simp [results, Try.results46, go_sem, x0, x1, x2, x3]
  · have hb := HLO.out.1
    exact (((HX9.out.1.setAway _ 0 _ hb).setAway _ 1 _ hb).setAway _ 2 _ hb).setAway _ 3 _ hb
  · have hl := HLO.out.2.2.2.2.1
    exact (((HB9.out.setCell (p := ⟨_, 0, none⟩) hl _).setCell (p := ⟨_, 1, none⟩) hl _).setCell (p := ⟨_, 2, none⟩) hl _).setCell (p := ⟨_, 3, none⟩) hl _
  · intro k hk h1 h2
    have hz := HX9.out.2
    have hne : ∀ (Z : World) (i : Nat) (v : Value), k < Z.heap.size → (Z.setCell ⟨w.heap.size, i, none⟩ v).heap[k]? = Z.heap[k]? := fun Z i v hZ => (grown_setR Z w.heap.size i v).block k hZ (fun e => by injection e with e; omega)
    have hk9 : k < w9.heap.size := by have := blk_lt hz; omega
    have hsz : ∀ (Z : World) (i : Nat) (v : Value), (Z.setCell ⟨w.heap.size, i, none⟩ v).heap.size = Z.heap.size := fun Z i v => by simp
    rw [hne _ 3 _ (by rw [hsz, hsz, hsz]; exact hk9), hne _ 2 _ (by rw [hsz, hsz]; exact hk9), hne _ 1 _ (by rw [hsz]; exact hk9), hne _ 0 _ hk9]
    exact HK9.out k hk h1 h2
end
theorem cost68 (w : World) : Calls Try.prog 43 #[.int .i64 68, .int .i64 0] w fun e w' => e = .returned (.int .u64 1680) ∧ w = w' := by
  go_enter Try.func43, Try.ntmps43
  go_wp2_with fail
  go_ret
  exact ⟨rfl, rfl⟩
end Go.Proofs.Ytpcoonnfaoakhaa
namespace Go.Proofs.Ytpcoonnfaoakhaa
set_option maxRecDepth 100000
open Go Go.RowKit
set_option linter.unusedVariables false

def L0 : List UInt8 := [0, 0, 0, 0, 0, 0, 0, 0, 0, 0, 0, 0, 0, 0, 0, 0, 0, 0, 0, 0, 0, 0, 0, 32, 0, 0, 0, 0, 0, 0, 0, 0, 0, 0, 0, 0, 0, 0, 0, 0, 0, 0, 0, 0, 0, 0, 0, 0, 0, 0, 0, 0, 0, 0, 0, 0, 0, 0, 0, 0, 0, 0, 0, 0, 0, 0, 0, 0]
def l1 : List UInt8 := L0.drop 4
def l2 : List UInt8 := L0.drop 12
def l3 : List UInt8 := L0.drop 20
def l4 : List UInt8 := L0.drop 56
def l5 : List UInt8 := L0.drop 64
def Z32 : List UInt8 := (L0.drop 24).take 32
theorem rd_1 : rB L0 0 = ([], l1, 0) := by decide +kernel
theorem rd_2 : rN l1 0 = (0, l2, 0) := by decide +kernel
theorem rd_3 : rN l2 0 = (0, l3, 0) := by decide +kernel
theorem rd_4 : rB l3 0 = (Z32, l4, 0) := by decide +kernel
theorem rd_5 : rC 8 l4 0 = (0, l5, 0) := by decide +kernel
theorem rd_6 : rB l5 0 = ([], [], 0) := by decide +kernel
theorem rd_7 : (fromU Z32).2 = 0 := by unfold fromU; rw [if_pos (by decide +kernel)]
set_option maxHeartbeats 20000000 in
theorem decode0_any (w : World) (v : Value) (hr : Rd w w.heap.size v L0) :
    Calls Try.prog 27 #[v] w fun e w' => ∃ a b c d Ab cb, e = .returned (.tuple #[.agg #[.string ⟨#[]⟩, .int .u64 0, .int .u64 0, .int .u64 a, .int .u64 b, .int .u64 c, .int .u64 d, .slice none 0 0, .slice Ab 0 cb], .int .i64 0]) ∧ Below w.heap.size w w' := by
  have ha1 := (Below.refl w.heap.size w).alloc (Nat.le_refl _) (.cells #[.string ⟨#[]⟩, .int .u64 0, .int .u64 0, .int .u64 0, .int .u64 0, .int .u64 0, .int .u64 0, .slice none 0 0, .slice none 0 0] 48)
  have hb1 := heap_alloc_new w (.cells #[.string ⟨#[]⟩, .int .u64 0, .int .u64 0, .int .u64 0, .int .u64 0, .int .u64 0, .int .u64 0, .slice none 0 0, .slice none 0 0] 48)
  have hs1 : (w.alloc (.cells #[.string ⟨#[]⟩, .int .u64 0, .int .u64 0, .int .u64 0, .int .u64 0, .int .u64 0, .int .u64 0, .slice none 0 0, .slice none 0 0] 48)).heap.size = w.heap.size + 1 := by simp
  have hr1 := hr.up (Nat.le_refl _) ha1
  generalize hW1 : w.alloc (.cells #[.string ⟨#[]⟩, .int .u64 0, .int .u64 0, .int .u64 0, .int .u64 0, .int .u64 0, .int .u64 0, .slice none 0 0, .slice none 0 0] 48) = W1 at *
  have HO := Lib.hid (open_rd v L0 W1 hr1 (by decide))
  obtain ⟨Av, cv, rfl⟩ := hr.form
  have HW := Lib.hid (And.intro ha1 (And.intro hb1 hs1))
  generalize hg1 : w.heap.size = r2 at *
  have HGG := Lib.hid hg1
  clear ha1 hb1 hs1 hr1 hr
  go_enter Try.func27, Try.ntmps27
  go_upto_region 1 with fail
  try rw [hW1]
  try rw [hg1]
  clear hW1 hg1
  go_wp2_with fail
  refine HO.out.mono ?_
  rintro e w2 ⟨g, rfl, hr2, hb2⟩
  go_upto_region 2 with fail
  obtain ⟨lo, hlo⟩ : ∃ lo, lo = W1.heap.size := ⟨_, rfl⟩
  rw [← hlo] at hr2
  have ha3 := (Below.refl w2.heap.size w2).alloc (Nat.le_refl _) (.cells #[.pointer (some ⟨g, 0, none⟩), .int .i64 0] 89)
  have hb3 := heap_alloc_new w2 (.cells #[.pointer (some ⟨g, 0, none⟩), .int .i64 0] 89)
  have hs3 : (w2.alloc (.cells #[.pointer (some ⟨g, 0, none⟩), .int .i64 0] 89)).heap.size = w2.heap.size + 1 := by simp
  have X3 : RdX (w2.alloc (.cells #[.pointer (some ⟨g, 0, none⟩), .int .i64 0] 89)) lo g w2.heap.size L0 0 0 := ⟨hb3, by have := hr2.from_; have := hr2.lt; omega, hr2.lt, hr2.below ha3⟩
  have hB3 : Below lo W1 (w2.alloc (.cells #[.pointer (some ⟨g, 0, none⟩), .int .i64 0] 89)) := by rw [hlo]; exact below_chain hb2 hb2.size ha3
  generalize hW3 : w2.alloc (.cells #[.pointer (some ⟨g, 0, none⟩), .int .i64 0] 89) = w3 at *
  clear hW3
  go_upto_region 3 with fail
  have ha4 := (Below.refl w3.heap.size w3).alloc (Nat.le_refl _) (.cells #[.string ⟨#[]⟩, .int .u64 0, .int .u64 0, .int .u64 0, .int .u64 0, .int .u64 0, .int .u64 0, .slice none 0 0, .slice none 0 0] 48)
  have hb4 := heap_alloc_new w3 (.cells #[.string ⟨#[]⟩, .int .u64 0, .int .u64 0, .int .u64 0, .int .u64 0, .int .u64 0, .int .u64 0, .slice none 0 0, .slice none 0 0] 48)
  have X4 := X3.up ha4
  have hB4 : Below lo W1 (w3.alloc (.cells #[.string ⟨#[]⟩, .int .u64 0, .int .u64 0, .int .u64 0, .int .u64 0, .int .u64 0, .int .u64 0, .slice none 0 0, .slice none 0 0] 48)) := below_chain hB3 (by have := hB3.size; omega) ha4
  generalize w3.alloc (.cells #[.string ⟨#[]⟩, .int .u64 0, .int .u64 0, .int .u64 0, .int .u64 0, .int .u64 0, .int .u64 0, .slice none 0 0, .slice none 0 0] 48) = w4 at *
  have hhb : w2.heap.size < w3.heap.size := by omega
  have hlb : lo ≤ w3.heap.size := by have := X3.l; omega
  generalize hh : w2.heap.size = h at *
  rw [hs3] at hb4 hhb hlb
  generalize hb : h + 1 = b at *
  have HLB := Lib.hid (And.intro hhb (And.intro hlb (And.intro hlo X4.n)))
  have HB4 := Lib.hid hB4
  have HX4 := Lib.hid X4
  have HT4 := Lib.hid hb4
  clear hb2 ha3 hb3 hs3 X3 hB3 ha4 hb4 hB4 hr2 hhb hlb X4
  clear hh hb hlo
  have D := rxt_any HX4.out
  rw [rd_1] at D
  dsimp only at D
  have HD := Lib.hid D
  clear D
  go_wp2_with fail
  refine HD.out.mono ?_
  rintro e v5 ⟨rfl, X5, hb5, hk5⟩
  have hT5 := (hk5 b (blk_lt HT4.out) (by have := HLB.out; omega) (by have := HLB.out; omega)).trans HT4.out
  have hB5 := HB4.out.trans hb5
  clear HD hb5 hk5
  have y0 := blk_cell hT5 0
  have f0 := blk_free hT5 0
  have X6 := (X5.setAway b 0 (.string ⟨#[]⟩) HLB.out.1)
  have hT6 : (v5.setCell ⟨b, 0, none⟩ (.string ⟨#[]⟩)).heap[b]? = some (.cells #[.string ⟨#[]⟩, .int .u64 0, .int .u64 0, .int .u64 0, .int .u64 0, .int .u64 0, .int .u64 0, .slice none 0 0, .slice none 0 0] 48 (0, 0)) := by have h := (blk_set hT5 0 (.string ⟨#[]⟩)); simpa using h
  have hB6 := (hB5.setCell (p := ⟨b, 0, none⟩) HLB.out.2.1 (.string ⟨#[]⟩))
  clear X5 hT5 hB5
  go_upto_region 4 with fail
  generalize (v5.setCell ⟨b, 0, none⟩ (.string ⟨#[]⟩)) = w5 at *
  clear y0 f0
  have HX5 := Lib.hid X6
  have HT5 := Lib.hid hT6
  have HB5 := Lib.hid hB6
  clear X6 hT6 hB6 HX4 HT4 HB4
  have D := rxn_any HX5.out
  rw [rd_2] at D
  dsimp only at D
  have HD := Lib.hid D
  clear D
  go_wp2_with fail
  refine HD.out.mono ?_
  rintro e v6 ⟨rfl, X5, hb5, hk5⟩
  have hT5 := (hk5 b (blk_lt HT5.out) (by have := HLB.out; omega) (by have := HLB.out; omega)).trans HT5.out
  have hB5 := HB5.out.trans hb5
  clear HD hb5 hk5
  have y1 := blk_cell hT5 1
  have f1 := blk_free hT5 1
  have X6 := (X5.setAway b 1 (.int .u64 0) HLB.out.1)
  have hT6 : (v6.setCell ⟨b, 1, none⟩ (.int .u64 0)).heap[b]? = some (.cells #[.string ⟨#[]⟩, .int .u64 0, .int .u64 0, .int .u64 0, .int .u64 0, .int .u64 0, .int .u64 0, .slice none 0 0, .slice none 0 0] 48 (0, 0)) := by have h := (blk_set hT5 1 (.int .u64 0)); simpa using h
  have hB6 := (hB5.setCell (p := ⟨b, 1, none⟩) HLB.out.2.1 (.int .u64 0))
  clear X5 hT5 hB5
  go_upto_region 5 with fail
  generalize (v6.setCell ⟨b, 1, none⟩ (.int .u64 0)) = w6 at *
  clear y1 f1
  have HX6 := Lib.hid X6
  have HT6 := Lib.hid hT6
  have HB6 := Lib.hid hB6
  clear X6 hT6 hB6 HX5 HT5 HB5
  have D := rxn_any HX6.out
  rw [rd_3] at D
  dsimp only at D
  have HD := Lib.hid D
  clear D
  go_wp2_with fail
  refine HD.out.mono ?_
  rintro e v7 ⟨rfl, X5, hb5, hk5⟩
  have hT5 := (hk5 b (blk_lt HT6.out) (by have := HLB.out; omega) (by have := HLB.out; omega)).trans HT6.out
  have hB5 := HB6.out.trans hb5
  clear HD hb5 hk5
  have y2 := blk_cell hT5 2
  have f2 := blk_free hT5 2
  have X6 := (X5.setAway b 2 (.int .u64 0) HLB.out.1)
  have hT6 : (v7.setCell ⟨b, 2, none⟩ (.int .u64 0)).heap[b]? = some (.cells #[.string ⟨#[]⟩, .int .u64 0, .int .u64 0, .int .u64 0, .int .u64 0, .int .u64 0, .int .u64 0, .slice none 0 0, .slice none 0 0] 48 (0, 0)) := by have h := (blk_set hT5 2 (.int .u64 0)); simpa using h
  have hB6 := (hB5.setCell (p := ⟨b, 2, none⟩) HLB.out.2.1 (.int .u64 0))
  clear X5 hT5 hB5
  go_upto_region 6 with fail
  generalize (v7.setCell ⟨b, 2, none⟩ (.int .u64 0)) = w7 at *
  clear y2 f2
  have HX7 := Lib.hid X6
  have HT7 := Lib.hid hT6
  have HB7 := Lib.hid hB6
  clear X6 hT6 hB6 HX6 HT6 HB6
  obtain ⟨ua, ub, uc, ud, hu⟩ : ∃ ua ub uc ud : Nat, (fromU Z32).1 = ⟨ua, ub, uc, ud⟩ := ⟨_, _, _, _, rfl⟩
  have D := rxu_ok HX7.out (by have h3 := HB7.out.size; rw [HLB.out.2.2.1]; exact h3) (by rw [rd_4])
  rw [rd_4] at D
  dsimp only at D
  rw [hu, rd_7] at D
  simp only [U4.val, U4.cells] at D
  have HD := Lib.hid D
  clear D
  go_wp2_with fail
  refine HD.out.mono ?_
  rintro e v8 ⟨rfl, X5, hb5, hk5⟩
  have hT5 := (hk5 b (blk_lt HT7.out) (by have := HLB.out; omega) (by have := HLB.out; omega)).trans HT7.out
  have hB5 := HB7.out.trans hb5
  clear HD hb5 hk5
  have y3 := blk_cell hT5 3
  have f3 := blk_free hT5 3
  have y4 := blk_cell hT5 4
  have f4 := blk_free hT5 4
  have y5 := blk_cell hT5 5
  have f5 := blk_free hT5 5
  have y6 := blk_cell hT5 6
  have f6 := blk_free hT5 6
  have X6 := ((((X5.setAway b 3 (.int .u64 (ua : Int)) HLB.out.1).setAway b 4 (.int .u64 (ub : Int)) HLB.out.1).setAway b 5 (.int .u64 (uc : Int)) HLB.out.1).setAway b 6 (.int .u64 (ud : Int)) HLB.out.1)
  have hT6 : ((((v8.setCell ⟨b, 3, none⟩ (.int .u64 (ua : Int))).setCell ⟨b, 4, none⟩ (.int .u64 (ub : Int))).setCell ⟨b, 5, none⟩ (.int .u64 (uc : Int))).setCell ⟨b, 6, none⟩ (.int .u64 (ud : Int))).heap[b]? = some (.cells #[.string ⟨#[]⟩, .int .u64 0, .int .u64 0, .int .u64 (ua : Int), .int .u64 (ub : Int), .int .u64 (uc : Int), .int .u64 (ud : Int), .slice none 0 0, .slice none 0 0] 48 (0, 0)) := by have h := (blk_set (blk_set (blk_set (blk_set hT5 3 (.int .u64 (ua : Int))) 4 (.int .u64 (ub : Int))) 5 (.int .u64 (uc : Int))) 6 (.int .u64 (ud : Int))); simpa using h
  have hB6 := ((((hB5.setCell (p := ⟨b, 3, none⟩) HLB.out.2.1 (.int .u64 (ua : Int))).setCell (p := ⟨b, 4, none⟩) HLB.out.2.1 (.int .u64 (ub : Int))).setCell (p := ⟨b, 5, none⟩) HLB.out.2.1 (.int .u64 (uc : Int))).setCell (p := ⟨b, 6, none⟩) HLB.out.2.1 (.int .u64 (ud : Int)))
  clear X5 hT5 hB5
  go_upto_region 7 with fail
  generalize ((((v8.setCell ⟨b, 3, none⟩ (.int .u64 (ua : Int))).setCell ⟨b, 4, none⟩ (.int .u64 (ub : Int))).setCell ⟨b, 5, none⟩ (.int .u64 (uc : Int))).setCell ⟨b, 6, none⟩ (.int .u64 (ud : Int))) = w8 at *
  clear y3 f3 y4 f4 y5 f5 y6 f6
  have HX8 := Lib.hid X6
  have HT8 := Lib.hid hT6
  have HB8 := Lib.hid hB6
  clear X6 hT6 hB6 HX7 HT7 HB7
  have D := rxc_any HX8.out 8 (by decide) (by decide)
  rw [rd_5] at D
  dsimp only at D
  have HD := Lib.hid D
  clear D
  go_wp2_with fail
  refine HD.out.mono ?_
  rintro e w9 ⟨rfl, X5, hb5, hk5⟩
  have HX9 := Lib.hid X5
  have HT9 := Lib.hid ((hk5 b (blk_lt HT8.out) (by have := HLB.out; omega) (by have := HLB.out; omega)).trans HT8.out)
  have HB9 := Lib.hid (HB8.out.trans hb5)
  clear HD X5 hb5 hk5 HX8 HT8 HB8 hu
  go_wp2_with fail
  go_loopw [21] (fun i wr => w9 = wr ∧ i = .int .i64 0)
    (fun _ _ => 0)
  case atStart => exact ⟨rfl, rfl⟩
  case round =>
    obtain ⟨rfl, rfl⟩ := hrel
    have D := rxb_any HX9.out
    rw [rd_6] at D
    dsimp only at D
    have HD := Lib.hid D
    clear D
    go_wp2_with fail
    refine HD.out.mono ?_
    rintro e v10 ⟨vb, rfl, ho5, X5, hb5, hk5⟩
    obtain ⟨Ab, cb, rfl⟩ := ho5.form
    clear ho5
    have hT5 := (hk5 b (blk_lt HT9.out) (by have := HLB.out; omega) (by have := HLB.out; omega)).trans HT9.out
    have hB5 := HB9.out.trans hb5
    clear HD hb5 hk5
    have y8 := blk_cell hT5 8
    have f8 := blk_free hT5 8
    have X6 := (X5.setAway b 8 (.slice Ab 0 cb) HLB.out.1)
    have hT6 : (v10.setCell ⟨b, 8, none⟩ (.slice Ab 0 cb)).heap[b]? = some (.cells #[.string ⟨#[]⟩, .int .u64 0, .int .u64 0, .int .u64 (ua : Int), .int .u64 (ub : Int), .int .u64 (uc : Int), .int .u64 (ud : Int), .slice none 0 0, .slice Ab 0 cb] 48 (0, 0)) := by have h := (blk_set hT5 8 (.slice Ab 0 cb)); simpa using h
    have hB6 := (hB5.setCell (p := ⟨b, 8, none⟩) HLB.out.2.1 (.slice Ab 0 cb))
    clear X5 hT5 hB5
    go_upto_region 15 with fail
    generalize (v10.setCell ⟨b, 8, none⟩ (.slice Ab 0 cb)) = w10 at *
    clear y8 f8
    have HX10 := Lib.hid X6
    have HT10 := Lib.hid hT6
    have HB10 := Lib.hid hB6
    clear X6 hT6 hB6 HX9 HT9 HB9
    have D := rxend_any HX10.out
    rw [show rEnd [] 0 = 0 from rfl] at D
    have HD := Lib.hid D
    clear D
    go_wp2_with fail
    refine HD.out.mono ?_
    rintro e w12 ⟨rfl, rfl⟩
    clear HD
    have y0 := blk_cell HT10.out 0
    have y1 := blk_cell HT10.out 1
    have y2 := blk_cell HT10.out 2
    have y3 := blk_cell HT10.out 3
    have y4 := blk_cell HT10.out 4
    have y5 := blk_cell HT10.out 5
    have y6 := blk_cell HT10.out 6
    have y7 := blk_cell HT10.out 7
    have y8 := blk_cell HT10.out 8
    have hR := (HB10.out.block r2 (by have := HW.out.2.2; have := HLB.out.2.2.1; omega)).trans HW.out.2.1
    have x0 := blk_cell hR 0
    have f0 := blk_free hR 0
    have x1 := blk_cell hR 1
    have f1 := blk_free hR 1
    have x2 := blk_cell hR 2
    have f2 := blk_free hR 2
    have x3 := blk_cell hR 3
    have f3 := blk_free hR 3
    have x4 := blk_cell hR 4
    have f4 := blk_free hR 4
    have x5 := blk_cell hR 5
    have f5 := blk_free hR 5
    have x6 := blk_cell hR 6
    have f6 := blk_free hR 6
    have x7 := blk_cell hR 7
    have f7 := blk_free hR 7
    have x8 := blk_cell hR 8
    have f8 := blk_free hR 8
    have hfin : Below r2 w w10 := HW.out.1.trans (HB10.out.mono (by have := HW.out.2.2; have := HLB.out.2.2.1; omega))
    have HFIN := Lib.hid hfin
    clear hR hfin
    go_wp2_with fail
    refine bodyPost_ret (v := .tuple #[.agg #[.string ⟨#[]⟩, .int .u64 0, .int .u64 0, .int .u64 (ua : Int), .int .u64 (ub : Int), .int .u64 (uc : Int), .int .u64 (ud : Int), .slice none 0 0, .slice Ab 0 cb], .int .i64 0]) ?_ rfl ⟨_, _, _, _, _, _, rfl, ?_⟩
    · simp [results, Try.results27, go_sem, x0, x1, x2, x3, x4, x5, x6, x7, x8]
    · exact (((((((((HFIN.out.setCell (p := ⟨r2, 0, none⟩) (Nat.le_refl _) _).setCell (p := ⟨r2, 1, none⟩) (Nat.le_refl _) _).setCell (p := ⟨r2, 2, none⟩) (Nat.le_refl _) _).setCell (p := ⟨r2, 3, none⟩) (Nat.le_refl _) _).setCell (p := ⟨r2, 4, none⟩) (Nat.le_refl _) _).setCell (p := ⟨r2, 5, none⟩) (Nat.le_refl _) _).setCell (p := ⟨r2, 6, none⟩) (Nat.le_refl _) _).setCell (p := ⟨r2, 7, none⟩) (Nat.le_refl _) _).setCell (p := ⟨r2, 8, none⟩) (Nat.le_refl _) _)
end Go.Proofs.Ytpcoonnfaoakhaa
