/- The law of chains: what is signed names its chain. -/
import Derived.Test.YtpcoonnfaoakhaaTxK
import Derived.Lib.SlicesS
namespace Go.Proofs.Ytpcoonnfaoakhaa
set_option maxRecDepth 100000
open Go Go.RowKit
set_option linter.unusedVariables false

theorem str_backT (s : ByteArray) : (⟨(strBytes s).toArray⟩ : ByteArray) = s := by
  obtain ⟨d⟩ := s
  simp [strBytes]
theorem encSgn_inj {a b : ByteArray} {t : TxV} (ha : a.size ≤ 60000) (hb : b.size ≤ 60000) (h : encSgn a t = encSgn b t) : a = b := by
  have h1 := congrArg (fun l => (rB l 0).1) h
  unfold encSgn encW at h1
  simp only [rB_enc] at h1
  rw [List.take_of_length_le (by rw [strBytes_length]; omega), List.take_of_length_le (by rw [strBytes_length]; omega)] at h1
  rw [← str_backT a, h1, str_backT]
set_option maxHeartbeats 16000000 in
theorem txchains_law (w : World) (t : TxV) (hr : t.rd w) (a b : ByteArray) (ha : a.size ≤ maxLen) (hb : b.size ≤ maxLen) : Calls Try.prog 6 #[.agg t.cells, .string a, .string b] w fun e w' => e = .returned (.bool true) ∧ Below w.heap.size w w' := by
  obtain ⟨Am, cm, hvm⟩ : ∃ A c, t.vms = .slice A t.ms.length c := by obtain ⟨A, c, e, _⟩ := hr.ms; exact ⟨A, c, e⟩
  obtain ⟨As, cs, hvs⟩ := hr.sig.form
  have hcl : t.cells = #[.string t.sg, .int .u64 (t.seq : Int), .int .u64 (t.gas : Int), .int .u64 (t.fee.a : Int), .int .u64 (t.fee.b : Int), .int .u64 (t.fee.c : Int), .int .u64 (t.fee.d : Int), .slice Am t.ms.length cm, .slice As t.sig.length cs] := by rw [TxV.cells, hvm, hvs]
  have HIN : Hid (a.size ≤ 60000 → b.size ≤ 60000 → encSgn a t = encSgn b t → a = b) := Lib.hid fun h1 h2 h3 => encSgn_inj h1 h2 h3
  have HIE : Hid (a = b → encSgn a t = encSgn b t) := Lib.hid fun h => by rw [h]
  have HSA := Lib.hid (fun (Z : World) (hz : Below w.heap.size w Z) => sb_any Z a ha t (hr.up hz))
  have HSB := Lib.hid (fun (Z : World) (hz : Below w.heap.size w Z) => sb_any Z b hb t (hr.up hz))
  rw [hcl] at HSA HSB ⊢
  generalize encE t.bare = ee at *
  generalize encSgn a t = ea at *
  generalize encSgn b t = eb at *
  generalize t.ms.length = n at *
  generalize t.sig.length = sl at *
  have ha1 := (Below.refl w.heap.size w).alloc (Nat.le_refl _) (.cells #[.string t.sg, .int .u64 (t.seq : Int), .int .u64 (t.gas : Int), .int .u64 (t.fee.a : Int), .int .u64 (t.fee.b : Int), .int .u64 (t.fee.c : Int), .int .u64 (t.fee.d : Int), .slice Am n cm, .slice As sl cs] 48)
  have hb1 := heap_alloc_new w (.cells #[.string t.sg, .int .u64 (t.seq : Int), .int .u64 (t.gas : Int), .int .u64 (t.fee.a : Int), .int .u64 (t.fee.b : Int), .int .u64 (t.fee.c : Int), .int .u64 (t.fee.d : Int), .slice Am n cm, .slice As sl cs] 48)
  generalize hW1 : w.alloc (.cells #[.string t.sg, .int .u64 (t.seq : Int), .int .u64 (t.gas : Int), .int .u64 (t.fee.a : Int), .int .u64 (t.fee.b : Int), .int .u64 (t.fee.c : Int), .int .u64 (t.fee.d : Int), .slice Am n cm, .slice As sl cs] 48) = W1 at *
  have HB1 := Lib.hid hb1
  have HA1 := Lib.hid ha1
  have H1 := HSA.out W1 ha1
  have HS1 := Lib.hid H1
  clear hr hvm hvs hcl ha1 hb1 H1 HSA
  go_enter Try.func6, Try.ntmps6
  go_upto_region 1 with fail
  try rw [hW1]
  clear hW1
  have c0 := blk_cell HB1.out 0
  have c1 := blk_cell HB1.out 1
  have c2 := blk_cell HB1.out 2
  have c3 := blk_cell HB1.out 3
  have c4 := blk_cell HB1.out 4
  have c5 := blk_cell HB1.out 5
  have c6 := blk_cell HB1.out 6
  have c7 := blk_cell HB1.out 7
  have c8 := blk_cell HB1.out 8
  go_wp2_with fail
  refine HS1.out.mono ?_
  rintro e w2 ⟨v1, rfl, hb2, ho1, hn1⟩
  have hB2 := below_chain HA1.out HA1.out.size hb2
  have hT2 := (hb2.block _ (blk_lt HB1.out)).trans HB1.out
  have H2 := HSB.out w2 hB2
  have HE2 := Lib.hid H2
  have HB2 := Lib.hid hB2
  have HT2 := Lib.hid hT2
  have HO1 := Lib.hid ho1
  have HN1 := Lib.hid hn1
  clear hb2 hB2 hT2 H2 c0 c1 c2 c3 c4 c5 c6 c7 c8 HS1 HB1 ho1 hn1 HSB
  have c0 := blk_cell HT2.out 0
  have c1 := blk_cell HT2.out 1
  have c2 := blk_cell HT2.out 2
  have c3 := blk_cell HT2.out 3
  have c4 := blk_cell HT2.out 4
  have c5 := blk_cell HT2.out 5
  have c6 := blk_cell HT2.out 6
  have c7 := blk_cell HT2.out 7
  have c8 := blk_cell HT2.out 8
  go_wp2_with fail
  refine HE2.out.mono ?_
  rintro e w3 ⟨v2, rfl, hb3, ho2, hn2⟩
  have HB3 := Lib.hid (below_chain HB2.out HB2.out.size hb3)
  have HO2 := Lib.hid ho2
  have HN2 := Lib.hid hn2
  have HB23 := Lib.hid hb3
  clear hb3 ho2 hn2 c0 c1 c2 c3 c4 c5 c6 c7 c8 HE2 HT2
  have g1 : (ee == ee) = true := by simp
  have g2 : (ee != ee) = false := by simp
  go_wp2_with fail
  refine (fixed11_any w3).mono ?_
  rintro e w4 ⟨rfl, hb4⟩
  have HB4 := Lib.hid (below_chain HB3.out HB3.out.size hb4)
  have HB34 := Lib.hid hb4
  clear hb4
  by_cases hf : ee = 0
  · have ho1 := (HO1.out hf).below HB23.out
    have ho1' := ho1.below HB34.out
    have ho2' := (HO2.out hf).below HB34.out
    have hcv1 := run_str (P := Try.prog) Try.underlying24 Try.underlying5 Try.isString ho1'.rd
    have hcv2 := run_str (P := Try.prog) Try.underlying24 Try.underlying5 Try.isString ho2'.rd
    have HXX : Hid ((⟨ea.toArray⟩ : ByteArray) = ⟨eb.toArray⟩ → ea = eb) := Lib.hid fun h => by injection h with h; injection h
    obtain ⟨xa, hxa⟩ : ∃ xa, xa = (⟨ea.toArray⟩ : ByteArray) := ⟨_, rfl⟩
    obtain ⟨xb, hxb⟩ : ∃ xb, xb = (⟨eb.toArray⟩ : ByteArray) := ⟨_, rfl⟩
    have HEQ : Hid (ea = eb → xa = xb) := Lib.hid fun h => by rw [hxa, hxb, h]
    rw [← hxa, ← hxb] at HXX
    rw [← hxa] at hcv1
    rw [← hxb] at hcv2
    subst hf
    obtain ⟨A1, k1, rfl⟩ := ho1'.form
    obtain ⟨A2, k2, rfl⟩ := ho2'.form
    clear ho1 ho1' ho2' hxa hxb HO1 HO2 HN1 HN2 g1 g2
    by_cases hmx : a.size ≤ 60000 ∧ b.size ≤ 60000
    · obtain ⟨m1, m2⟩ := hmx
      have hm : ¬ (60000 : Int) < max (a.size : Int) (b.size : Int) := by omega
      have hm2 : ¬ 60000 < max a.size b.size := by omega
      by_cases hab : a = b
      · have hx := HEQ.out (HIE.out hab)
        subst hx
        subst hab
        clear HIN HIE HEQ HXX
        go_wp2_with fail
        go_ret
        exact ⟨by simp, HB4.out⟩
      · have hx : ¬ xa = xb := fun h => hab (HIN.out m1 m2 (HXX.out h))
        have hx2 : (xa.toList == xb.toList) = false := (Lib.bytes_beq_false_iff _ _).2 hx
        have hab2 : (a.toList == b.toList) = false := (Lib.bytes_beq_false_iff _ _).2 hab
        clear HIN HIE HEQ HXX
        go_wp2_with fail
        go_ret
        exact ⟨by simp [hx2, hab2], HB4.out⟩
    · have hm : (60000 : Int) < max (a.size : Int) (b.size : Int) := by omega
      have hm2 : 60000 < max a.size b.size := by omega
      clear HIN HIE HEQ HXX hmx hcv1 hcv2
      go_wp2_with fail
      refine (fixed11_any w4).mono ?_
      rintro e w5 ⟨rfl, hb5⟩
      have HB5 := Lib.hid (below_chain HB4.out HB4.out.size hb5)
      clear hb5
      go_wp2_with fail
      go_ret
      exact ⟨by simp, HB5.out⟩
  · have f1 : (ee != 0) = true := by simpa using hf
    have f2 : (ee == 0) = false := by simpa using hf
    clear hf HO1 HO2 HN1 HN2 HIN HIE
    go_wp2_with fail
    refine (fixed11_any w4).mono ?_
    rintro e w5 ⟨rfl, hb5⟩
    have HB5 := Lib.hid (below_chain HB4.out HB4.out.size hb5)
    clear hb5
    go_wp2_with fail
    go_ret
    exact ⟨by simp, HB5.out⟩
end Go.Proofs.Ytpcoonnfaoakhaa
