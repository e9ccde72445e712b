
/- The law: what is paid ahead of any packet is read as the document says, over any store. -/
import Derived.Test.YtlkbjhhbpmmamaaRFeeG0
import Derived.Test.YtlkbjhhbpmmamaaFeeX
import Derived.Test.YtlkbjhhbpmmamaaSto2
namespace Go.Proofs.Ytlkbjhhbpmmamaa
set_option maxRecDepth 100000
open Go Go.RowKit
set_option linter.unusedVariables false

def SelfN (n : Nat) (xs : Array Value) (f : Field) : Prop := ∃ a, (∀ w, (part f.type xs f.offset).run Try.prog w = .ok a w) ∧ ∀ w, (Op.equalIn n f.type a a).run Try.prog w = .ok true w
theorem eqFields_selfN {n : Nat} {xs : Array Value} : ∀ {fs : List Field} (h : ∀ f ∈ fs, SelfN n xs f) (w : World), (Op.eqFields n xs xs fs).run Try.prog w = .ok true w
  | [], _, w => by simp [Op.eqFields]
  | f :: fs, h, w => by
    obtain ⟨a, h1, h2⟩ := h f (by simp)
    have ih := eqFields_selfN (fun g hg => h g (List.mem_cons_of_mem _ hg)) w
    simp only [Op.eqFields, Sem.run_bind, Sem.run_ite]
    split
    · simp [h1, h2, Result.andThen, ih]
    · exact ih
theorem eqInt_n (n a b : Nat) (w : World) : (Op.equalIn (n + 1) 23 (.int .u64 (a : Int)) (.int .u64 (b : Int))).run Try.prog w = .ok (decide (a = b)) w := by
  rw [run_equalIn_int w n _ _ _ _ _ Try.underlying23]
  congr 1
  rw [Bool.eq_iff_iff]; simp; omega
theorem run_equal4_n (n : Nat) (x y : U4) (w : World) : (Op.equalIn (n + 2) 33 (.agg x.cells) (.agg y.cells)).run Try.prog w = .ok (eqB x y) w := by
  rw [Op.equalIn]
  simp only [Sem.run_bind, run_underlying Try.underlying33, Result.andThen_ok, size_u64, Std.Legacy.Range.forIn_eq_forIn_range', Std.Legacy.Range.size, Nat.sub_zero, Nat.add_sub_cancel, Nat.div_one]
  rw [show List.range' 0 4 1 = [0, 1, 2, 3] from rfl]
  simp only [List.forIn_cons, List.forIn_nil, Sem.run_bind, part_at x _ (show 0 < 4 by omega), part_at x _ (show 1 < 4 by omega), part_at x _ (show 2 < 4 by omega), part_at x _ (show 3 < 4 by omega), part_at y _ (show 0 < 4 by omega), part_at y _ (show 1 < 4 by omega), part_at y _ (show 2 < 4 by omega), part_at y _ (show 3 < 4 by omega), Result.andThen_ok,
    run_equalIn_int _ _ _ _ _ _ _ Try.underlying23, beq_nat]
  unfold eqB
  by_cases h1 : x.a = y.a <;> by_cases h2 : x.b = y.b <;> by_cases h3 : x.c = y.c <;> by_cases h4 : x.d = y.d <;> simp [U4.at, h1, h2, h3, h4, part1, part2, part3, eqInt_n, Result.andThen]
theorem Try.payF : ∃ f0 f1 f2 f3 : Field, (Try.prog.fieldsOf 35).toList = [f0, f1, f2, f3] ∧ f0.type = 9 ∧ f1.type = 33 ∧ f2.type = 33 ∧ f3.type = 33 ∧ f0.offset = 0 ∧ f1.offset = 1 ∧ f2.offset = 5 ∧ f3.offset = 9 :=
  ⟨_, _, _, _, (by rfl), rfl, rfl, rfl, rfl, rfl, rfl, rfl, rfl⟩
theorem pay_selfN (d : ByteArray) (x y z : U4) : ∀ f ∈ (Try.prog.fieldsOf 35).toList, SelfN 9998 #[.string d, .int .u64 (x.a : Int), .int .u64 (x.b : Int), .int .u64 (x.c : Int), .int .u64 (x.d : Int), .int .u64 (y.a : Int), .int .u64 (y.b : Int), .int .u64 (y.c : Int), .int .u64 (y.d : Int), .int .u64 (z.a : Int), .int .u64 (z.b : Int), .int .u64 (z.c : Int), .int .u64 (z.d : Int)] f := by
  obtain ⟨f0, f1, f2, f3, hl, t0, t1, t2, t3, o0, o1, o2, o3⟩ := Try.payF
  rw [hl]
  intro f hf
  simp only [List.mem_cons, List.not_mem_nil, or_false] at hf
  rcases hf with rfl | rfl | rfl | rfl
  · exact ⟨.string d, fun w => by rw [t0, o0]; rfl, fun w => by rw [run_equalIn_string w 9997 f.type d d (by rw [t0]; exact Try.underlying9)]; simp⟩
  · exact ⟨x.val, fun w => by rw [t1, o1]; rfl, fun w => by rw [t1]; show (Op.equalIn (9996 + 2) _ (.agg x.cells) (.agg x.cells)).run _ _ = _; rw [run_equal4_n, eqB_refl]⟩
  · exact ⟨y.val, fun w => by rw [t2, o2]; rfl, fun w => by rw [t2]; show (Op.equalIn (9996 + 2) _ (.agg y.cells) (.agg y.cells)).run _ _ = _; rw [run_equal4_n, eqB_refl]⟩
  · exact ⟨z.val, fun w => by rw [t3, o3]; rfl, fun w => by rw [t3]; show (Op.equalIn (9996 + 2) _ (.agg z.cells) (.agg z.cells)).run _ _ = _; rw [run_equal4_n, eqB_refl]⟩
theorem Try.rpaidF : ∃ f0 f1 : Field, (Try.prog.fieldsOf 40).toList = [f0, f1] ∧ f0.type = 9 ∧ f1.type = 35 ∧ f0.offset = 0 ∧ f1.offset = 1 :=
  ⟨_, _, (by rfl), rfl, rfl, rfl, rfl⟩
theorem paid_eqIn (f d : ByteArray) (x y z : U4) (W : World) : (Op.equalIn 10000 40 (.agg #[.string f, .string d, .int .u64 (x.a : Int), .int .u64 (x.b : Int), .int .u64 (x.c : Int), .int .u64 (x.d : Int), .int .u64 (y.a : Int), .int .u64 (y.b : Int), .int .u64 (y.c : Int), .int .u64 (y.d : Int), .int .u64 (z.a : Int), .int .u64 (z.b : Int), .int .u64 (z.c : Int), .int .u64 (z.d : Int)]) (.agg #[.string f, .string d, .int .u64 (x.a : Int), .int .u64 (x.b : Int), .int .u64 (x.c : Int), .int .u64 (x.d : Int), .int .u64 (y.a : Int), .int .u64 (y.b : Int), .int .u64 (y.c : Int), .int .u64 (y.d : Int), .int .u64 (z.a : Int), .int .u64 (z.b : Int), .int .u64 (z.c : Int), .int .u64 (z.d : Int)])).run Try.prog W = .ok true W := by
  rw [run_equalIn_struct W 9999 _ _ _ (by kernel_rfl) (by kernel_rfl)]
  refine eqFields_selfN (fun g hg => ?_) W
  obtain ⟨f0, f1, hl, t0, t1, o0, o1⟩ := Try.rpaidF
  rw [hl] at hg
  simp only [List.mem_cons, List.not_mem_nil, or_false] at hg
  rcases hg with rfl | rfl
  · exact ⟨.string f, fun w => by rw [t0, o0]; rfl, fun w => by rw [run_equalIn_string w 9998 g.type f f (by rw [t0]; exact Try.underlying9)]; simp⟩
  · exact ⟨.agg #[.string d, .int .u64 (x.a : Int), .int .u64 (x.b : Int), .int .u64 (x.c : Int), .int .u64 (x.d : Int), .int .u64 (y.a : Int), .int .u64 (y.b : Int), .int .u64 (y.c : Int), .int .u64 (y.d : Int), .int .u64 (z.a : Int), .int .u64 (z.b : Int), .int .u64 (z.c : Int), .int .u64 (z.d : Int)], fun w => by rw [t1, o1]; rfl, fun w => by rw [t1, run_equalIn_struct w 9998 _ _ _ (by kernel_rfl) (by kernel_rfl), eqFields_selfN (pay_selfN d x y z)]⟩
theorem pdO_eq (o : Option PdV) : pdO o = .tuple #[(o.getD PdV.none).val, .bool o.isSome] := by cases o <;> rfl
set_option maxHeartbeats 16000000 in
theorem fgets_law (w : World) (v : Value) (ps : List Pr) (hps : RdP w w.heap.size v ps) (hnl : ∀ p ∈ ps, p.1.size ≤ maxLen) (hvl : ∀ p ∈ ps, p.2.length ≤ 2000000) (hlen : ps.length ≤ 2000000) (id : ByteArray) (hid : id.size ≤ 100000000) (n : Nat) (hn : n < 18446744073709551616) :
    Calls Try.prog 3 #[v, .string id, .int .u64 (n : Int)] w fun e w' => e = .returned (.bool true) ∧ Below w.heap.size w w' := by
  have HN := Lib.hid (new_any w v ps hps hnl)
  have HR := Lib.hid (fun (W : World) (hb : Below w.heap.size w W) => rnew_doc W v ps (hps.keptX (Kept.of_belowX hb)) hnl hvl hlen)
  have HV := Lib.hid (And.intro hvl hlen)
  obtain ⟨A, c, rfl⟩ : ∃ A c, v = .slice A ps.length c := by obtain ⟨A, c, h, _⟩ := hps; exact ⟨A, c, h⟩
  clear hps hvl hlen
  go_enter Try.func3, Try.ntmps3
  go_wp2_with fail
  refine HN.out.mono ?_
  rintro e w1 ⟨⟨hor, rfl⟩ | ⟨hor, y, rfl, hyb, hym, hyn, hly, hri, hp1⟩, hb1⟩
  · have HO := Lib.hid hor
    clear hor
    go_wp2_with fail
    refine (HR.out _ hb1).mono ?_
    rintro e w2 ⟨⟨-, rfl⟩ | ⟨h2, -⟩, hb2⟩
    rotate_left
    · rw [HO.out] at h2; cases h2
    have hq2 := below_chain hb1 hb1.size hb2
    go_wp2_with fail
    refine (ffixed_any _).mono ?_
    rintro e w3 ⟨rfl, hb3⟩
    have hq3 := below_chain hq2 hq2.size hb3
    go_wp2_with fail
    refine (ffixed_any _).mono ?_
    rintro e w4 ⟨rfl, hb4⟩
    have hq4 := below_chain hq3 hq3.size hb4
    go_wp2_with fail
    go_ret
    exact ⟨rfl, hq4⟩
  · have HO := Lib.hid hor
    have A1 := At.made hp1 hly hri hnl
    obtain ⟨yb, ym, yn, yf⟩ := y
    dsimp only at ⊢
    clear hor hyb hym hyn hly hri hp1 HN
    go_wp2_with fail
    refine (HR.out _ hb1).mono ?_
    rintro e w2 ⟨⟨h2, -⟩ | ⟨-, b, rfl, hbb, hds⟩, hb2⟩
    · rw [HO.out] at h2; cases h2
    have A2 := A1.up hb2
    have D2 : RGet w2 b ps := RGet.of hds (by have := HV.out.2; omega) HV.out.1
    have hq2 := below_chain hb1 hb1.size hb2
    clear A1 hb1 hb2 hbb hds HR HO
    go_wp2_with fail
    refine (ffixed_any _).mono ?_
    rintro e w3 ⟨rfl, hb3⟩
    have A3 := A2.up hb3
    have D3 := D2.up hb3
    have hq3 := below_chain hq2 hq2.size hb3
    have HG := Lib.hid (fget_any A3 id n hn hid)
    have HG' := Lib.hid (fun (W : World) (hb : Below w3.heap.size w3 W) => rfget_any (D3.up hb) id n hn hid)
    rw [pdO_eq] at HG HG'
    generalize (getPd ps id n).isSome = ok at *
    generalize (getPd ps id n).getD PdV.none = q at *
    obtain ⟨f, d, x, y, z⟩ := q
    have heq := Lib.hid (paid_eqIn f d x y z)
    unfold PdV.val PdV.cells at HG HG'
    dsimp only at HG HG'
    clear hb3 A2 D2 A3 D3
    go_wp2_with fail
    refine HG.out.mono ?_
    rintro e w4 ⟨rfl, hb4⟩
    have hx4 := heap_alloc_new w4 (.cells #[.string f, .string d, .int .u64 (x.a : Int), .int .u64 (x.b : Int), .int .u64 (x.c : Int), .int .u64 (x.d : Int), .int .u64 (y.a : Int), .int .u64 (y.b : Int), .int .u64 (y.c : Int), .int .u64 (y.d : Int), .int .u64 (z.a : Int), .int .u64 (z.b : Int), .int .u64 (z.c : Int), .int .u64 (z.d : Int)] 37)
    have hax : Below w4.heap.size w4 (w4.alloc (.cells #[.string f, .string d, .int .u64 (x.a : Int), .int .u64 (x.b : Int), .int .u64 (x.c : Int), .int .u64 (x.d : Int), .int .u64 (y.a : Int), .int .u64 (y.b : Int), .int .u64 (y.c : Int), .int .u64 (y.d : Int), .int .u64 (z.a : Int), .int .u64 (z.b : Int), .int .u64 (z.c : Int), .int .u64 (z.d : Int)] 37)) := (Below.refl _ _).alloc (Nat.le_refl _) _
    have hb5 := below_chain hb4 hb4.size hax
    have HG5 := Lib.hid (HG'.out _ hb5)
    have HX4 := Lib.hid hx4
    have HB5 := Lib.hid hb5
    clear HG HG' hb4 hx4 hax hb5
    go_wp2_with fail
    generalize w4.alloc (.cells #[.string f, .string d, .int .u64 (x.a : Int), .int .u64 (x.b : Int), .int .u64 (x.c : Int), .int .u64 (x.d : Int), .int .u64 (y.a : Int), .int .u64 (y.b : Int), .int .u64 (y.c : Int), .int .u64 (y.d : Int), .int .u64 (z.a : Int), .int .u64 (z.b : Int), .int .u64 (z.c : Int), .int .u64 (z.d : Int)] 37) = w5 at *
    generalize w4.heap.size = gx at *
    refine HG5.out.mono ?_
    rintro e w6 ⟨rfl, hb6⟩
    have hy6 := heap_alloc_new w6 (.cells #[.string f, .string d, .int .u64 (x.a : Int), .int .u64 (x.b : Int), .int .u64 (x.c : Int), .int .u64 (x.d : Int), .int .u64 (y.a : Int), .int .u64 (y.b : Int), .int .u64 (y.c : Int), .int .u64 (y.d : Int), .int .u64 (z.a : Int), .int .u64 (z.b : Int), .int .u64 (z.c : Int), .int .u64 (z.d : Int)] 40)
    have hay : Below w6.heap.size w6 (w6.alloc (.cells #[.string f, .string d, .int .u64 (x.a : Int), .int .u64 (x.b : Int), .int .u64 (x.c : Int), .int .u64 (x.d : Int), .int .u64 (y.a : Int), .int .u64 (y.b : Int), .int .u64 (y.c : Int), .int .u64 (y.d : Int), .int .u64 (z.a : Int), .int .u64 (z.b : Int), .int .u64 (z.c : Int), .int .u64 (z.d : Int)] 40)) := (Below.refl _ _).alloc (Nat.le_refl _) _
    have hx6 := (hay.block _ (blk_lt ((hb6.block _ (blk_lt HX4.out)).trans HX4.out))).trans ((hb6.block _ (blk_lt HX4.out)).trans HX4.out)
    have hq7 := below_chain hq3 hq3.size (below_chain HB5.out HB5.out.size (below_chain hb6 hb6.size hay))
    have p0 := blk_cell hx6 0
    have q0 := blk_cell hy6 0
    have p1 := blk_cell hx6 1
    have q1 := blk_cell hy6 1
    have p2 := blk_cell hx6 2
    have q2 := blk_cell hy6 2
    have p3 := blk_cell hx6 3
    have q3 := blk_cell hy6 3
    have p4 := blk_cell hx6 4
    have q4 := blk_cell hy6 4
    have p5 := blk_cell hx6 5
    have q5 := blk_cell hy6 5
    have p6 := blk_cell hx6 6
    have q6 := blk_cell hy6 6
    have p7 := blk_cell hx6 7
    have q7 := blk_cell hy6 7
    have p8 := blk_cell hx6 8
    have q8 := blk_cell hy6 8
    have p9 := blk_cell hx6 9
    have q9 := blk_cell hy6 9
    have p10 := blk_cell hx6 10
    have q10 := blk_cell hy6 10
    have p11 := blk_cell hx6 11
    have q11 := blk_cell hy6 11
    have p12 := blk_cell hx6 12
    have q12 := blk_cell hy6 12
    have p13 := blk_cell hx6 13
    have q13 := blk_cell hy6 13
    have HQ7 := Lib.hid hq7
    clear HG5 hb6 hy6 hay hx6 hq7 HX4 HB5
    have he := heq.out
    cases ok <;>
      (go_wp2_with fail
       go_ret
       exact ⟨rfl, HQ7.out⟩)
end Go.Proofs.Ytlkbjhhbpmmamaa
