
/- The law: where connections are kept, and read, over any store. -/
import Derived.Test.YtlkkjnacolmmpaaDoorCnnF
import Derived.Test.YtlkkjnacolmmpaaDoorRConG
import Derived.Test.YtlkkjnacolmmpaaDoorSto2
namespace Go.Proofs.YtlkkjnacolmmpaaDoor
set_option maxRecDepth 100000
open Go Go.RowKit
set_option linter.unusedVariables false

theorem Tryd.rcnF : ∃ f0 f1 f2 f3 : Field, (Tryd.prog.fieldsOf 37).toList = [f0, f1, f2, f3] ∧ f0.type = 32 ∧ f1.type = 9 ∧ f2.type = 9 ∧ f3.type = 9 ∧ f0.offset = 0 ∧ f1.offset = 1 ∧ f2.offset = 2 ∧ f3.offset = 3 :=
  ⟨_, _, _, _, (by rfl), rfl, rfl, rfl, rfl, rfl, rfl, rfl, rfl⟩
theorem rcn_self (v : CnV) : ∀ f ∈ (Tryd.prog.fieldsOf 37).toList, SelfF v.cs f := by
  obtain ⟨f0, f1, f2, f3, hl, t0, t1, t2, t3, o0, o1, o2, o3⟩ := Tryd.rcnF
  rw [hl]
  intro f hf
  simp only [List.mem_cons, List.not_mem_nil, or_false] at hf
  rcases hf with rfl | rfl | rfl | rfl
  · exact self_int (v.st : Int) (by rw [t0]; exact Tryd.underlying32) (fun w => by rw [t0, o0]; rfl)
  · exact self_str v.cl (by rw [t1]; exact Tryd.underlying9) (fun w => by rw [t1, o1]; rfl)
  · exact self_str v.cc (by rw [t2]; exact Tryd.underlying9) (fun w => by rw [t2, o2]; rfl)
  · exact self_str v.ct (by rw [t3]; exact Tryd.underlying9) (fun w => by rw [t3, o3]; rfl)
theorem cnV_eq (o : Option CnV) : cnV o = .tuple #[.agg (o.getD CnV.none).cs, .bool o.isSome] := by cases o <;> rfl

set_option maxHeartbeats 8000000 in
theorem cnkeys_law (w : World) (v : Value) (ps : List Pr) (hps : RdP w w.heap.size v ps) (hnl : ∀ p ∈ ps, p.1.size ≤ maxLen) (hvl : ∀ p ∈ ps, p.2.length ≤ 2000000) (hlen : ps.length ≤ 2000000) (a : ByteArray) (ha : a.size ≤ 100000000)
    (fr : TypeId × Nat × Nat) (hk : w.heap[0]? = some (.cells kVals fr.1 fr.2)) :
    Calls Tryd.prog 3 #[v, .string a] w fun e w' => e = .returned (.bool true) ∧ Below w.heap.size w w' := by
  have HF : Hid (∀ Z, Below w.heap.size w Z → Calls Tryd.prog 10 #[] Z fun e w' => e = .returned (.bool true) ∧ Below Z.heap.size Z w') := Lib.hid fun Z hz => cnfixed_any Z fr ((hz.block _ (blk_lt hk)).trans hk)
  have HN := Lib.hid (new_any w v ps hps hnl)
  have HR := Lib.hid (fun (W : World) (hb : Below w.heap.size w W) => rnew_doc W v ps (hps.keptX (Kept.of_belowX hb)) hnl hvl hlen)
  have HV := Lib.hid (And.intro hvl hlen)
  have HK1 := Lib.hid (fun Z : World => cnkey_any a Z ha)
  have HK2 := Lib.hid (fun Z : World => rcnkey_any a Z ha)
  generalize kConn a = kk at HK1 HK2
  have hkk : (kk.toList == kk.toList) = true := beq_self_eq_true _
  obtain ⟨A, c, rfl⟩ : ∃ A c, v = .slice A ps.length c := by obtain ⟨A, c, h, _⟩ := hps; exact ⟨A, c, h⟩
  clear hps hvl hlen hk
  go_enter Tryd.func3, Tryd.ntmps3
  go_wp2_with fail
  refine HN.out.mono ?_
  rintro e w1 ⟨⟨hor, rfl⟩ | ⟨hor, y, rfl, hyb, hym, hyn, hly, hri, hp1⟩, hb1⟩
  · have HO := Lib.hid hor
    clear hor
    go_wp2_with fail
    refine (HR.out _ hb1).mono ?_
    rintro e w2 ⟨⟨-, rfl⟩ | ⟨h2, -⟩, hb2⟩
    rotate_left
    · rw [HO.out] at h2; cases h2
    have hq2 := below_chain hb1 hb1.size hb2
    go_wp2_with fail
    refine (HF.out _ hq2).mono ?_
    rintro e w3 ⟨rfl, hb3⟩
    have hq3 := below_chain hq2 hq2.size hb3
    go_wp2_with fail
    refine (HK1.out _).mono ?_
    rintro e w4 ⟨rfl, rfl⟩
    go_wp2_with fail
    refine (HK2.out _).mono ?_
    rintro e w4 ⟨rfl, rfl⟩
    go_wp2_with fail
    refine (HF.out _ hq3).mono ?_
    rintro e w4 ⟨rfl, hb4⟩
    have hq4 := below_chain hq3 hq3.size hb4
    go_wp2_with fail
    go_ret
    exact ⟨rfl, hq4⟩
  · have HO := Lib.hid hor
    have A1 := At.made hp1 hly hri hnl
    obtain ⟨yb, ym, yn, yf⟩ := y
    dsimp only at ⊢
    clear hor hyb hym hyn hly hri hp1 HN
    go_wp2_with fail
    refine (HR.out _ hb1).mono ?_
    rintro e w2 ⟨⟨h2, -⟩ | ⟨-, b, rfl, hbb, hds⟩, hb2⟩
    · rw [HO.out] at h2; cases h2
    have A2 := A1.up hb2
    have D2 : RGet w2 b ps := RGet.of hds (by have := HV.out.2; omega) HV.out.1
    have hq2 := below_chain hb1 hb1.size hb2
    clear A1 hb1 hb2 hbb hds HR HO
    go_wp2_with fail
    refine (HF.out _ hq2).mono ?_
    rintro e w3 ⟨rfl, hb3⟩
    have A3 := A2.up hb3
    have D3 := D2.up hb3
    have hq3 := below_chain hq2 hq2.size hb3
    have HG := Lib.hid (cnget_any A3 a ha)
    have HG' := Lib.hid (fun (W : World) (hb : Below w3.heap.size w3 W) => rcnget_any (D3.up hb) a ha)
    rw [cnV_eq] at HG HG'
    generalize (getCn ps a).isSome = ok at *
    generalize (getCn ps a).getD CnV.none = X at *
    have q1 := fun W => eql_self (by kernel_rfl) (by kernel_rfl) (rcn_self X) W
    have q2 := fun W => eqIn_selfC (by kernel_rfl) (by kernel_rfl) (rcn_self X) W
    obtain ⟨st, cl, cc, ct⟩ := X
    unfold CnV.cs at *
    dsimp only at *
    clear hb3 A2 D2 A3 D3 HF
    go_wp2_with fail
    refine (HK1.out _).mono ?_
    rintro e w4 ⟨rfl, rfl⟩
    go_wp2_with fail
    refine (HK2.out _).mono ?_
    rintro e w4 ⟨rfl, rfl⟩
    clear HK1 HK2
    go_wp2_with fail
    refine HG.out.mono ?_
    rintro e w4 ⟨rfl, hb4⟩
    have k4 := heap_alloc_new w4 (.cells #[.int .u64 (st : Int), .string cl, .string cc, .string ct] 34)
    have b4 := hb4.alloc hb4.size (.cells #[.int .u64 (st : Int), .string cl, .string cc, .string ct] 34)
    have HG5 := Lib.hid (HG'.out _ b4)
    clear HG HG' hb4
    go_wp2_with fail
    generalize w4.alloc (.cells #[.int .u64 (st : Int), .string cl, .string cc, .string ct] 34) = w5 at *
    generalize w4.heap.size = g4 at *
    refine HG5.out.mono ?_
    rintro e w6 ⟨rfl, hb6⟩
    have b6 := below_chain b4 b4.size hb6
    have b7 := b6.alloc b6.size (.cells #[.int .u64 (st : Int), .string cl, .string cc, .string ct] 37)
    have k6 := (hb6.block _ (blk_lt k4)).trans k4
    have k7 := (Below.heap_alloc w6 (.cells #[.int .u64 (st : Int), .string cl, .string cc, .string ct] 37) _ (blk_lt k6)).trans k6
    have m7 := heap_alloc_new w6 (.cells #[.int .u64 (st : Int), .string cl, .string cc, .string ct] 37)
    have c0 := blk_cell k7 0
    have c1 := blk_cell k7 1
    have c2 := blk_cell k7 2
    have c3 := blk_cell k7 3
    have d0 := blk_cell m7 0
    have d1 := blk_cell m7 1
    have d2 := blk_cell m7 2
    have d3 := blk_cell m7 3
    have hq7 := below_chain hq3 hq3.size b7
    clear HG5 k4 k6 b4 b6 b7 hb6
    go_wp2_with fail
    go_ret
    exact ⟨rfl, hq7⟩
end Go.Proofs.YtlkkjnacolmmpaaDoor
