/- What the law fixes; the laws of what fits and of chains. -/
import Derived.Test.YtpcoonnfaoakhaaM09
namespace Go.Proofs.Ytpcoonnfaoakhaa
set_option maxRecDepth 100000
open Go Go.RowKit
set_option linter.unusedVariables false

def t0 : TxV := ⟨⟨#[]⟩, 0, 0, ⟨0, 0, 0, 0⟩, .slice none 0 0, [], .slice none 0 0, []⟩
theorem t0_rd (w : World) : t0.rd w := ⟨by decide, by decide, by decide, zero_ok, ⟨none, 0, rfl, fun h => absurd h (by decide)⟩, fun m hm => absurd hm (by simp [t0]), Rd.nil _ _, by decide⟩
theorem t0_enc : encTx t0 = L0 := by decide +kernel
theorem t0_e : encE t0 = 0 := by decide +kernel
set_option maxHeartbeats 8000000 in
theorem fixed11_any (w : World) : Calls Try.prog 25 #[] w fun e w' => e = .returned (.bool true) ∧ Below w.heap.size w w' := by
  have HE := encode_any w t0 (t0_rd w)
  rw [show t0.cells = #[.string ⟨#[]⟩, .int .u64 0, .int .u64 0, .int .u64 0, .int .u64 0, .int .u64 0, .int .u64 0, .slice none 0 0, .slice none 0 0] from rfl, t0_enc, t0_e] at HE
  have HEN := Lib.hid HE
  clear HE
  go_enter Try.func25, Try.ntmps25
  go_wp2_with fail
  refine HEN.out.mono ?_
  rintro e w2 ⟨v, rfl, hb2, ho, -⟩
  have hoo := ho (by first | rfl | trivial)
  have HD := Lib.hid (decode0_any w2 v hoo.rd)
  obtain ⟨A, c, rfl⟩ := hoo.form
  have hll : L0.length = 68 := rfl
  rw [hll] at HD ⊢
  clear ho hoo HEN hll
  go_wp2_with fail
  refine HD.out.mono ?_
  rintro e w3 ⟨ua, ub, uc, ud, Av, cv, rfl, hb3⟩
  have hB3 := below_chain hb2 hb2.size hb3
  have ha4 := (Below.refl w3.heap.size w3).alloc (Nat.le_refl _) (.cells #[.string ⟨#[]⟩, .int .u64 0, .int .u64 0, .int .u64 ua, .int .u64 ub, .int .u64 uc, .int .u64 ud, .slice none 0 0, .slice Av 0 cv] 48)
  have hb4 := heap_alloc_new w3 (.cells #[.string ⟨#[]⟩, .int .u64 0, .int .u64 0, .int .u64 ua, .int .u64 ub, .int .u64 uc, .int .u64 ud, .slice none 0 0, .slice Av 0 cv] 48)
  have c1 := blk_cell hb4 1
  have HB4 := Lib.hid (below_chain hB3 hB3.size ha4)
  clear hb2 hb3 hB3 ha4 hb4 HD
  go_wp2_with fail
  refine (cost68 _).mono ?_
  rintro e w5 ⟨rfl, rfl⟩
  go_wp2_with fail
  go_ret
  exact ⟨rfl, HB4.out⟩

theorem encTx_pos (t : TxV) : 0 < (encTx t).length := by
  unfold encTx
  rw [List.length_append, List.length_append, be_length]
  omega
theorem encE_cases {t : TxV} (h : fitsE t = 0) : encE t = 0 ∨ (encE t = 22 ∧ 0 < t.ms.length) := by
  unfold encE
  rw [if_pos h]
  by_cases h2 : t.ms.all (fun m => decide ((encM m).length ≤ 65535)) = true
  · exact .inl (if_pos h2)
  · right
    refine ⟨if_neg h2, ?_⟩
    cases hm : t.ms with
    | nil => rw [hm] at h2; exact absurd rfl h2
    | cons a l => simp
set_option maxHeartbeats 16000000 in
theorem txfits_law (w : World) (t : TxV) (hr : t.rd w) : Calls Try.prog 5 #[.agg t.cells] w fun e w' => e = .returned (.bool true) ∧ Below w.heap.size w w' := by
  obtain ⟨Am, cm, hvm⟩ : ∃ A c, t.vms = .slice A t.ms.length c := by obtain ⟨A, c, e, _⟩ := hr.ms; exact ⟨A, c, e⟩
  obtain ⟨As, cs, hvs⟩ := hr.sig.form
  have hcl : t.cells = #[.string t.sg, .int .u64 (t.seq : Int), .int .u64 (t.gas : Int), .int .u64 (t.fee.a : Int), .int .u64 (t.fee.b : Int), .int .u64 (t.fee.c : Int), .int .u64 (t.fee.d : Int), .slice Am t.ms.length cm, .slice As t.sig.length cs] := by rw [TxV.cells, hvm, hvs]
  obtain ⟨n, hnn⟩ : ∃ n, n = t.ms.length := ⟨_, rfl⟩
  obtain ⟨sl, hsl⟩ : ∃ n, n = t.sig.length := ⟨_, rfl⟩
  rw [← hnn, ← hsl] at hcl
  have HP := Lib.hid (encTx_pos t)
  have HEC : Hid (fitsE t = 0 → encE t = 0 ∨ (encE t = 22 ∧ 0 < n)) := Lib.hid fun h => by rw [hnn]; exact encE_cases h
  have HEF : Hid (fitsE t ≠ 0 → encE t = fitsE t) := Lib.hid fun h => by unfold encE; rw [if_neg h]
  have HFT := Lib.hid (fun (Z : World) (hz : Below w.heap.size w Z) => fits_tx Z t (hr.up hz))
  have HEN := Lib.hid (fun (Z : World) (hz : Below w.heap.size w Z) => encode_any Z t (hr.up hz))
  rw [hcl] at HFT HEN ⊢
  generalize fitsE t = fe at *
  generalize encE t = ee at *
  generalize encTx t = et at *
  have ha1 := (Below.refl w.heap.size w).alloc (Nat.le_refl _) (.cells #[.string t.sg, .int .u64 (t.seq : Int), .int .u64 (t.gas : Int), .int .u64 (t.fee.a : Int), .int .u64 (t.fee.b : Int), .int .u64 (t.fee.c : Int), .int .u64 (t.fee.d : Int), .slice Am n cm, .slice As sl cs] 48)
  have hb1 := heap_alloc_new w (.cells #[.string t.sg, .int .u64 (t.seq : Int), .int .u64 (t.gas : Int), .int .u64 (t.fee.a : Int), .int .u64 (t.fee.b : Int), .int .u64 (t.fee.c : Int), .int .u64 (t.fee.d : Int), .slice Am n cm, .slice As sl cs] 48)
  generalize hW1 : w.alloc (.cells #[.string t.sg, .int .u64 (t.seq : Int), .int .u64 (t.gas : Int), .int .u64 (t.fee.a : Int), .int .u64 (t.fee.b : Int), .int .u64 (t.fee.c : Int), .int .u64 (t.fee.d : Int), .slice Am n cm, .slice As sl cs] 48) = W1 at *
  have hlt := blk_lt hb1
  have HB1 := Lib.hid hb1
  have HA1 := Lib.hid ha1
  have HLT := Lib.hid hlt
  have H1 := HFT.out W1 ha1
  have HF1 := Lib.hid H1
  clear hr hvm hvs hcl hnn hsl ha1 hb1 hlt H1
  go_enter Try.func5, Try.ntmps5
  go_upto_region 1 with fail
  try rw [hW1]
  clear hW1
  have c0 := blk_cell HB1.out 0
  have c1 := blk_cell HB1.out 1
  have c2 := blk_cell HB1.out 2
  have c3 := blk_cell HB1.out 3
  have c4 := blk_cell HB1.out 4
  have c5 := blk_cell HB1.out 5
  have c6 := blk_cell HB1.out 6
  have c7 := blk_cell HB1.out 7
  have c8 := blk_cell HB1.out 8
  go_wp2_with fail
  refine HF1.out.mono ?_
  rintro e w2 ⟨rfl, hb2⟩
  have hB2 := below_chain HA1.out HA1.out.size hb2
  have hT2 := (hb2.block _ HLT.out).trans HB1.out
  have H2 := HEN.out w2 hB2
  have HE2 := Lib.hid H2
  have HB2 := Lib.hid hB2
  have HT2 := Lib.hid hT2
  clear hb2 hB2 hT2 H2 c0 c1 c2 c3 c4 c5 c6 c7 c8 HF1 HB1
  have c0 := blk_cell HT2.out 0
  have c1 := blk_cell HT2.out 1
  have c2 := blk_cell HT2.out 2
  have c3 := blk_cell HT2.out 3
  have c4 := blk_cell HT2.out 4
  have c5 := blk_cell HT2.out 5
  have c6 := blk_cell HT2.out 6
  have c7 := blk_cell HT2.out 7
  have c8 := blk_cell HT2.out 8
  go_wp2_with fail
  refine HE2.out.mono ?_
  rintro e w3 ⟨v, rfl, hb3, ho, hn⟩
  have HB3 := Lib.hid (below_chain HB2.out HB2.out.size hb3)
  have HT3 := Lib.hid ((hb3.block _ (blk_lt HT2.out)).trans HT2.out)
  have HO := Lib.hid ho
  have HN := Lib.hid hn
  clear hb3 ho hn c0 c1 c2 c3 c4 c5 c6 c7 c8 HE2 HT2
  go_wp2_with fail
  refine (fixed11_any w3).mono ?_
  rintro e w4 ⟨rfl, hb4⟩
  have HB4 := Lib.hid (below_chain HB3.out HB3.out.size hb4)
  have c7 := blk_cell ((hb4.block _ (blk_lt HT3.out)).trans HT3.out) 7
  clear hb4
  by_cases hf : fe = 0
  · subst hf
    rcases HEC.out rfl with he | ⟨he, hnp⟩
    · have hos := HO.out he
      obtain ⟨A, c, rfl⟩ := hos.form
      have hp := HP.out
      clear hos
      generalize et.length = el at *
      have hp2 : (0 : Int) < (el : Int) := by omega
      subst he
      clear HO HN HEC HEF
      go_wp2_with fail
      go_ret
      exact ⟨rfl, HB4.out⟩
    · obtain rfl := HN.out (by rw [he]; decide)
      subst he
      have hp2 : (0 : Int) < (n : Int) := by omega
      clear HO HN HEC HEF
      go_wp2_with fail
      go_ret
      exact ⟨rfl, HB4.out⟩
  · have f1 : (fe != 0) = true := by simpa using hf
    have he := HEF.out hf
    obtain rfl := HN.out (by rw [he]; exact hf)
    subst he
    have f2 : (ee == ee) = true := by simp
    clear hf HO HN HEC HEF c7
    go_wp2_with fail
    refine (fixed11_any w4).mono ?_
    rintro e w5 ⟨rfl, hb5⟩
    have HB5 := Lib.hid (below_chain HB4.out HB4.out.size hb5)
    clear hb5
    go_wp2_with fail
    go_ret
    exact ⟨rfl, HB5.out⟩
end Go.Proofs.Ytpcoonnfaoakhaa
