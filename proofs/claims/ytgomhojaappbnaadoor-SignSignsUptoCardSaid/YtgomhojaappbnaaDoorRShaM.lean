/- The walk of the document's sum. -/
import Derived.Test.YtgomhojaappbnaaDoorShaM
import Derived.Test.YtgomhojaappbnaaDoorRShaP
import Derived.Test.YtgomhojaappbnaaDoorRShaK
namespace Go.Proofs.YtgomhojaappbnaaDoor
open Go.RowKit

/-! ### the whole message filled up is its whole blocks and the rest filled up -/
theorem pad_is (l : List UInt8) (size : Nat) : pad l size = l ++ (128 :: (List.replicate (fullOf l.length - 9 - l.length) 0 ++ be (8 * size % 18446744073709551616) 8)) := by
  have hf := fullOf_le l.length
  unfold pad
  generalize 8 * size % 18446744073709551616 = b
  generalize fullOf l.length = F at *
  have h1 : over (List.replicate F 0) 0 l = l ++ List.replicate (F - l.length) 0 := by
    unfold over
    rw [List.take_zero, List.nil_append, Nat.zero_add, List.drop_replicate]
  rw [h1]
  obtain ⟨k, hk⟩ : ∃ k, F - l.length = k + 1 + 8 := ⟨F - l.length - 9, by omega⟩
  rw [hk, List.set_append_right _ _ (Nat.le_refl _), Nat.sub_self, show k + 1 + 8 = (k + 8) + 1 by omega, List.replicate_succ, List.set_cons_zero]
  unfold over
  have h2 : (l ++ 128 :: List.replicate (k + 8) (0 : UInt8)) = (l ++ 128 :: List.replicate k 0) ++ List.replicate 8 0 := by
    rw [List.append_assoc, List.cons_append, List.replicate_append_replicate]
  have h3 : (l ++ 128 :: List.replicate k (0 : UInt8)).length = F - 8 := by simp; omega
  rw [h2, List.take_left' h3, be_length, List.drop_of_length_le (by rw [List.length_append, h3]; simp), List.append_nil, show F - 9 - l.length = k by omega]
  simp
theorem pad_parts (a b : List UInt8) (n size : Nat) (ha : a.length = 64 * n) : pad (a ++ b) size = a ++ pad b size := by
  rw [pad_is, pad_is, List.append_assoc]
  have : fullOf (a ++ b).length - 9 - (a ++ b).length = fullOf b.length - 9 - b.length := by
    unfold fullOf
    rw [List.length_append]
    omega
  rw [this]
theorem eat_cong {s : S8} {l m : List UInt8} {n : Nat} (h : ∀ i, i < n → (l.drop (64 * i)).take 64 = (m.drop (64 * i)).take 64) : eat s l n = eat s m n := by
  induction n with
  | zero => rfl
  | succ n ih => simp only [eat]; rw [ih fun i hi => h i (by omega), h n (by omega)]
theorem eat_more (s : S8) (a m : List UInt8) (n k : Nat) (ha : a.length = 64 * n) : eat s (a ++ m) (n + k) = eat (eat s (a ++ m) n) m k := by
  induction k with
  | zero => rfl
  | succ k ih =>
    rw [← Nat.add_assoc]
    simp only [eat]
    rw [ih, show 64 * (n + k) = a.length + 64 * k by omega, List.drop_append]
    rw [List.drop_of_length_le (by omega), List.nil_append, show a.length + 64 * k - a.length = 64 * k by omega]
theorem shaSum_pad (l : List UInt8) : shaSum l = (eat s0 (pad l l.length) ((pad l l.length).length / 64)).bytes := by
  unfold shaSum
  obtain ⟨n, hn⟩ : ∃ n, n = l.length / 64 := ⟨_, rfl⟩
  obtain ⟨a, ha⟩ : ∃ a, a = l.take (64 * n) := ⟨_, rfl⟩
  obtain ⟨b, hb⟩ : ∃ b, b = l.drop (64 * n) := ⟨_, rfl⟩
  have hal : a.length = 64 * n := by rw [ha, List.length_take]; omega
  have hl : l = a ++ b := by rw [ha, hb, List.take_append_drop]
  have hp : pad l l.length = a ++ shaEnd l := by
    unfold shaEnd
    rw [← hn, ← hb]
    conv => lhs; arg 1; rw [hl]
    exact pad_parts a b n _ hal
  rw [hp, ← hn]
  generalize shaEnd l = M
  rw [List.length_append, show (a.length + M.length) / 64 = n + M.length / 64 by omega, eat_more _ _ _ _ _ hal]
  congr 2
  refine eat_cong fun i hi => ?_
  rw [hl]
  have h1 : 64 * i + 64 ≤ a.length := by omega
  rw [List.drop_append_of_le_length (by omega), List.drop_append_of_le_length (by omega), List.take_append_of_le_length (by rw [List.length_drop]; omega), List.take_append_of_le_length (by rw [List.length_drop]; omega)]

/-- block g holds the state s -/
def RBlk (w : World) (g : Nat) (s : S8) : Prop := w.heap[g]? = some (.cells s.list.toArray 61 (0, 0))

theorem wpList_store_r8 {w : World} {ops : Array Oper} {rest : List Oper} {o : Oper} {a : Act} {Q : Exit → Act → World → Prop} (hgd : o.guard = none) (x y : Operand) (ho : o.op = .store 61 x y)
    (g : Nat) (s : S8) (hx : a.eval x = .pointer (some ⟨g, 0, none⟩)) (hy : a.eval y = .agg s.list.toArray) (C : Array Value) (hg : w.heap[g]? = some (.cells C 61 (0, 0))) (hC : C.size = 8)
    (h : ∀ w', RBlk w' g s → (∀ B, B ≤ g → Below B w w') → w'.heap.size = w.heap.size → (∀ k, k ≠ g → w'.heap[k]? = w.heap[k]?) → wpList Tryd.prog ops Q rest (a.put o.dst undef) w') : wpList Tryd.prog ops Q (o :: rest) a w := by
  refine wpList_store_row hgd 61 x y ho g _ hx hy 61 C hg (by kernel_rfl) (by rw [hC]; rfl) (all_oneCell_toArray (list_one _)) ?_
  exact h _ (setRow_heap w g C _ 61 (0, 0) hg) (fun B hB => below_setRow (Below.refl _ _) hB _) (by simp [World.setRow]) (fun k hk => setRow_other w g k _ hk)

theorem RBlk.cells {w : World} {g : Nat} {s : S8} (h : RBlk w g s) : w.rangeAt g 0 s.list := by
  have := World.rangeAt_of_block h 0 8
  rwa [show (s.list.toArray.extract 0 (0 + 8)).toList = s.list by simp [S8.list]] at this
theorem RBlk.below {w w' : World} {g : Nat} {s : S8} (h : RBlk w g s) (hb : Below w.heap.size w w') : RBlk w' g s := (hb.block g (blk_lt h)).trans h

theorem RBlk.at8 {w : World} {g : Nat} {s : S8} (h : RBlk w g s) : w.cell? ⟨g, 0, none⟩ = some (.int .u32 (s.a.toNat : Int)) ∧ w.cell? ⟨g, 1, none⟩ = some (.int .u32 (s.b.toNat : Int)) ∧ w.cell? ⟨g, 2, none⟩ = some (.int .u32 (s.c.toNat : Int)) ∧ w.cell? ⟨g, 3, none⟩ = some (.int .u32 (s.d.toNat : Int)) ∧
    w.cell? ⟨g, 4, none⟩ = some (.int .u32 (s.e.toNat : Int)) ∧ w.cell? ⟨g, 5, none⟩ = some (.int .u32 (s.f.toNat : Int)) ∧ w.cell? ⟨g, 6, none⟩ = some (.int .u32 (s.g.toNat : Int)) ∧ w.cell? ⟨g, 7, none⟩ = some (.int .u32 (s.h.toNat : Int)) :=
  ⟨blk_cell h 0, blk_cell h 1, blk_cell h 2, blk_cell h 3, blk_cell h 4, blk_cell h 5, blk_cell h 6, blk_cell h 7⟩


theorem RBlk.word {w : World} {g : Nat} {s : S8} (h : RBlk w g s) (t : Nat) (ht : t < 8) : w.cell? ⟨g, t, none⟩ = some (.int .u32 ((s.word t).toNat : Int)) := by
  rw [blk_cell h t]
  have : t = 0 ∨ t = 1 ∨ t = 2 ∨ t = 3 ∨ t = 4 ∨ t = 5 ∨ t = 6 ∨ t = 7 := by omega
  rcases this with rfl | rfl | rfl | rfl | rfl | rfl | rfl | rfl <;> rfl

set_option maxRecDepth 100000 in
set_option maxHeartbeats 4000000 in
theorem rsum_any (v : Value) (l : List UInt8) (w : World) (hr : Rd w w.heap.size v l) (hl : l.length ≤ 140737488355000) (fr : TypeId × Nat × Nat) (hk : w.heap[1]? = some (.cells kVals fr.1 fr.2)) :
    Calls Tryd.prog 40 #[v] w fun e w' => ∃ v', e = .returned v' ∧ Own w' w.heap.size v' (shaSum l) ∧ Below w.heap.size w w' := by
  have hn0 := blk_lt hk
  obtain ⟨i0, hi, hz, hsz, hby⟩ := info_parts Tryd.infoByte
  obtain ⟨A, c, rfl⟩ := hr.form
  have HQ0 := Lib.hid (shaSum_pad l)
  go_enter Tryd.func40, Tryd.ntmps40
  go_wp2_with (first
    | (
      with_reducible refine at_build 61 ?_
      refine wpList_plain rfl fun K hK => wp_build_to 61 _ s0.list.toArray rfl ?_ (hK _ _ ?_)
      · simp only [List.map_toArray, List.map_cons, List.map_nil]
        exact rbuild8 _ _ _ _ _ _ _ _)
    | (
      with_reducible refine at_store 61 ?_
      generalize hwa : World.alloc w _ = wa
      obtain ⟨Z, hZs, hG⟩ : ∃ Z : Array Value, Z.size = 8 ∧ wa.heap[w.heap.size]? = some (.cells Z 61 (0, 0)) := ⟨_, rfl, by rw [← hwa]; exact heap_alloc_new w _⟩
      have hba : Below w.heap.size w wa := by rw [← hwa]; exact (Below.refl _ _).alloc (Nat.le_refl _) _
      have hsza : wa.heap.size = w.heap.size + 1 := by rw [← hwa]; simp
      refine wpList_store_r8 rfl (.tmp 3) (.tmp 9) rfl w.heap.size s0 rfl rfl Z hG hZs ?_
      intro w2 hs2 hbx hsz2 _
      have hb2 : Below w.heap.size w w2 := hba.trans (hbx _ (Nat.le_refl _))
      clear hwa hG hba hbx hZs
      obtain ⟨g, hg⟩ : ∃ g, g = w.heap.size := ⟨_, rfl⟩
      rw [← hg] at hs2
      simp only [← hg]
      have hsz3 : w2.heap.size = g + 1 := by rw [hsz2, hsza, hg]
      clear hsz2 hsza
      have HG := Lib.hid hg
      clear hg
      apply wpList_nil))
  have hr2 := (hr.more (Nat.le_refl _)).below hb2 |>.more hb2.size
  refine (rpadded_any _ l w2 hr2 hl).mono ?_
  rintro e w3 ⟨v3, rfl, ho3, hb3⟩
  have hbw3 := below_chain hb2 hb2.size hb3
  have hs3 : RBlk w3 g s0 := hs2.below hb3
  have ho4 : Own w3 (g + 1) v3 (pad l l.length) := ho3.more (by omega)
  have hpl := pad_length l l.length
  have hfl := fullOf_le l.length
  have h64 : (pad l l.length).length % 64 = 0 := by rw [hpl]; unfold fullOf; omega
  have hML : (pad l l.length).length ≤ l.length + 72 := by omega
  have hgw : w.heap.size ≤ g := Nat.le_of_eq HG.out.symm
  obtain ⟨b3, c3, hv3, hc3, hcm3, -⟩ := id ho4.rd
  subst hv3
  generalize hM : pad l l.length = M at *
  have HM := Lib.hid hM
  obtain ⟨m, hm⟩ : ∃ m, M.length = 64 * m := ⟨M.length / 64, by omega⟩
  have HMM := Lib.hid hm
  clear hM hb3 hb2 hs2 ho3 hpl hfl h64 hm hr2 hr
  go_wp2
  go_loopw [5] (fun i wr => ∃ (p k : Nat), p = 64 * k ∧ p ≤ M.length ∧ i = .int .i64 (p : Int) ∧ RBlk wr g (eat s0 M k) ∧ Below w.heap.size w wr ∧ Own wr (g + 1) (.slice b3 M.length c3) M)
    (fun i _ => M.length - (intOf i).toNat)
  case atStart => exact ⟨0, 0, rfl, Nat.zero_le _, rfl, hs3, hbw3, ho4⟩
  case round =>
    clear hs3 hbw3 ho4
    obtain ⟨p, k, hpk, hpq, rfl, hs, hb, ho⟩ := hrel
    have hm := HMM.out
    by_cases hlt : p < M.length
    · have hp64 : p + 64 ≤ M.length := by omega
      have hrM := ho.rd
      obtain ⟨b, o, rfl⟩ : ∃ b o, b3 = some ⟨b, o, none⟩ := by
        obtain ⟨_, _, e, _, _, hq⟩ := id hrM
        obtain ⟨b, o, e2, _⟩ := hq (by omega)
        injection e with e
        exact ⟨b, o, e.trans e2⟩
      obtain ⟨a0, a1, a2, a3, a4, a5, a6, a7⟩ := hs.at8
      have hsub := Rd.sub hrM p 64 (c3 - p) (by omega) (by omega) (by omega)
      have hpl : ((M.drop p).take 64).length = 64 := by simp; omega
      have HK := Lib.hid hpk
      clear hpk hm hrM
      obtain ⟨s, hse⟩ : ∃ s, s = eat s0 M k := ⟨_, rfl⟩
      rw [← hse] at hs a0 a1 a2 a3 a4 a5 a6 a7
      have HS := Lib.hid hse
      clear hse
      have c2 : (0 : Int) ≤ (p : Int) := by omega
      have c3' : (p : Int) ≤ (p : Int) + 64 := by omega
      have c4 : (p : Int) + 64 ≤ (c3 : Int) := by omega
      have c1 : (0 : Int) ≤ (p : Int) + 64 := by omega
      have c0 : IntKind.i64.wrap ((p : Int) + 64) = (p : Int) + 64 := by rw [IntKind.wrap_i64]; omega
      have c8 : ((p : Int) + 64).toNat = p + 64 := by omega
      have c5 : (p : Int) < (M.length : Int) := by omega
      have c6 : ¬ c3 = p := by omega
      have c7 : p + 64 - p = 64 := by omega
      go_wp2
      refine wp_region_still_tail 6 (by kernel_rfl) (by kernel_rfl) ?_
      simp only [List.take_succ_cons, List.take_zero, List.drop_succ_cons, List.drop_zero]
      repeat still_step
      try refine wpStill_nil ?_
      change wpList _ _ _ _ _ wr.drew
      have hsd : RBlk wr.drew g s := hs
      have hbd : Below w.heap.size w wr.drew := hb.drew
      have hod : Own wr.drew (g + 1) _ M := ho
      have hsubd : Rd wr.drew wr.drew.heap.size _ _ := hsub
      clear a0 a1 a2 a3 a4 a5 a6 a7 hs hb ho hsub
      generalize wr.drew = wd at *
      go_wp2_with fail
      refine (rblock_any s _ _ wd hsubd hpl fr ((hbd.block _ hn0).trans hk)).mono ?_
      rintro e w4 ⟨rfl, hb4⟩
      have hb5 : Below w.heap.size w w4 := below_chain hbd hbd.size hb4
      have hs4 : RBlk w4 g s := hsd.below hb4
      have ho5 := hod.below hb4
      clear hb4 hsubd hod hsd hbd
      go_wp2_with (
        with_reducible refine at_store 61 ?_
        refine wpList_store_r8 rfl (.tmp 3) (.tmp 24) rfl g (taken8 s ((M.drop p).take 64)) rfl rfl _ hs4 rfl ?_
        intro w6 hs6 hb6 _ ho6
        have hb7 : Below w.heap.size w w6 := hb5.trans (hb6 _ hgw)
        have hb0 := hb6 0 (Nat.zero_le _)
        have ho7 : Own w6 (g + 1) _ M := ho5.grown (row := some g) ⟨hb0.os, hb0.tape, hb0.output, hb0.size, fun k _ hne => ho6 k (by rintro rfl; exact hne rfl)⟩ (.inr (by intro e; have := ho5.lt g e; omega))
        clear hs4 hb6 ho6 hb0 ho5)
      go_roundw
      case rel =>
        refine ⟨p + 64, k + 1, by have := HK.out; omega, by omega, by go_num, ?_, hb7, ho7⟩
        rw [HS.out, HK.out] at hs6
        exact hs6
      case measure => simp [intOf]; omega
    · have hpe : k = M.length / 64 := by omega
      have c5 : ¬ (p : Int) < (M.length : Int) := by omega
      have hs2 : RBlk wr g (eat s0 M (M.length / 64)) := by rw [← hpe]; exact hs
      have HQ := Lib.hid (show shaSum l = (eat s0 M (M.length / 64)).bytes from HQ0.out)
      clear hpe hpk hm hs HM ho HQ0
      obtain ⟨s2, hs9⟩ : ∃ s, s = eat s0 M (M.length / 64) := ⟨_, rfl⟩
      rw [← hs9] at hs2 HQ
      clear hs9
      go_wp2
      obtain ⟨wr', rfl⟩ : ∃ wq : World, wq = wr := ⟨_, rfl⟩
      go_loopw [6, 7] (fun v6 i wr => ∃ t : Nat, t ≤ 8 ∧ i = .int .i64 (t : Int) ∧ Own wr (g + 1) v6 (s2.out t) ∧ RBlk wr g s2 ∧ Below w.heap.size w wr)
        (fun _ i _ => 8 - (intOf i).toNat)
      case atStart => exact ⟨0, Nat.zero_le _, rfl, Own.nil _ _, hs2, hb⟩
      case round =>
        clear hb hs2
        obtain ⟨t, ht, rfl, ho, hs2, hb⟩ := hrel
        by_cases hlt8 : t < 8
        · have HX := Lib.hid (s2.out_succ t hlt8)
          have hol : (s2.out t).length = 4 * t := s2.out_length t ht
          have HC := Lib.hid (fun W (h : RBlk W g s2) => h.word t hlt8)
          obtain ⟨x, hxx⟩ : ∃ x, x = s2.word t := ⟨_, rfl⟩
          rw [← hxx] at HX HC
          clear hxx
          have i1 : (0 : Int) ≤ (t : Int) := by omega
          have i2 : (t : Int) < 8 := by omega
          go_wp2
          obtain ⟨wr'', rfl⟩ : ∃ wq : World, wq = wr := ⟨_, rfl⟩
          go_loopw [6, 8] (fun v6 i wr => ∃ (r : Nat) (dn : List UInt8), dn.length + r = 4 ∧ i = .int .i64 ((r : Int) - 1) ∧ dn ++ be x.toNat r = be x.toNat 4 ∧ Own wr (g + 1) v6 (s2.out t ++ dn) ∧ RBlk wr g s2 ∧ Below w.heap.size w wr)
            (fun _ i _ => (intOf i + 1).toNat)
          case atStart => exact ⟨4, [], rfl, rfl, rfl, by simpa using ho, hs2, hb⟩
          case round =>
            clear ho hs2 hb
            obtain ⟨r, dn, hdn, rfl, hbe, ho, hs2, hb⟩ := hrel
            have HD := Lib.hid hdn
            have HB := Lib.hid hbe
            have hr4 : r ≤ 4 := by omega
            clear hdn hbe
            by_cases h0 : r = 0
            · subst h0
              have HE := Lib.hid (show s2.out t ++ dn = s2.out (t + 1) from by have h1 := HB.out; rw [show be x.toNat 0 = [] from rfl, List.append_nil] at h1; rw [h1, HX.out])
              go_wp2
              go_roundw
              case rel => exact ⟨t + 1, by omega, by go_num, by rw [← HE.out]; exact ho, hs2, hb⟩
              case measure => simp [intOf]; omega
            · obtain ⟨q, rfl⟩ : ∃ q, r = q + 1 := ⟨r - 1, by omega⟩
              have hdl : dn.length ≤ 4 := by have := HD.out; omega
              have e1 := HC.out wr hs2
              have hgl := blk_lt hs2
              go_wp2_with (at_builtin; refine wpList_append_rd rfl (.tmp 33) (.tmp 42) _ rfl i0 Tryd.underlying22 hi hz hsz hby rfl (ho.alloc _) rfl (rd_lit wr _ [UInt8.ofNat (x.toNat / 2 ^ (8 * q))] 1 rfl (by simp [bcells, bval]) (by simp [maxLen])) (by rw [List.length_append, hol]; simp; omega) (by simp; omega) ?_; intro v1 w1 ho1 hg1 _)
              have hb1 : Below w.heap.size w w1 := Own.below_grown (hb.alloc hb.size _) (ho.alloc _) (by omega) (by have := hb.size; simp; omega) hg1
              have hs3 : RBlk w1 g s2 := (hg1.block g (by simp; omega) (by intro e; have := (ho.alloc (.cells #[.int .u8 ((x.toNat : Int) / 2 ^ (8 * q) % 256)] 5)).lt g e.symm; omega)).trans ((Below.heap_alloc wr _ g hgl).trans hs2)
              clear hg1 ho hb hs2 e1
              go_roundw
              case rel => exact ⟨q, dn ++ [UInt8.ofNat (x.toNat / 2 ^ (8 * q))], by have := HD.out; simp; omega, by go_num, by have := HB.out; rw [← this, List.append_assoc]; rfl, by rw [← List.append_assoc]; exact ho1, hs3, hb1⟩
              case measure => first | (simp [intOf]; done) | (simp [intOf]; omega)
        · have ht8 : t = 8 := by omega
          have i2 : ¬ (t : Int) < 8 := by omega
          subst ht8
          go_wp2
          go_ret
          refine ⟨_, rfl, ?_, hb⟩
          rw [HQ.out]
          exact ho.more (by omega)
end Go.Proofs.YtgomhojaappbnaaDoor
