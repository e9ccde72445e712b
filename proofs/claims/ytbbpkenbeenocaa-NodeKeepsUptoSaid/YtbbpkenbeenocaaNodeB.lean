
/- The walk of node.split. -/
import Derived.Test.YtbbpkenbeenocaaNodeA
import Derived.Test.YtbbpkenbeenocaaOutR
import Derived.Test.YtbbpkenbeenocaaDiskE
import Derived.Test.YtbbpkenbeenocaaTac
namespace Go.Proofs.Ytbbpkenbeenocaa
set_option maxRecDepth 100000
open Go Go.RowKit
set_option linter.unusedVariables false

section
variable {P : Program} {w w' : World} {g B : Nat} {L l : List UInt8}
theorem Rd.takeN {A : Option Addr} {L c n : Nat} (h : Rd w B (.slice A L c) l) (hn : n ≤ l.length) : Rd w B (.slice A n c) (l.take n) := by
  obtain ⟨A', c', e, h1, h2, hp⟩ := h
  injection e with e1 e2 e3
  subst e1; subst e3
  have hl : (l.take n).length = n := by simp; omega
  refine ⟨A, c, by rw [hl], by omega, h2, fun h0 => ?_⟩
  obtain ⟨b, o, rfl, hlt, hc⟩ := hp (by omega)
  exact ⟨b, o, rfl, hlt, fun j hj => by rw [List.getElem_take]; exact hc j (by omega)⟩
theorem Rd.dropN {A : Option Addr} {L c lo : Nat} (h : Rd w B (.slice A L c) l) (hn : lo ≤ l.length) : Rd w B (.slice (if c = lo then A else A.map (·.add (lo * 1))) (L - lo) (c - lo)) (l.drop lo) := by
  obtain ⟨A', c', e, h1, h2, hp⟩ := h
  injection e with e1 e2 e3
  subst e1; subst e3
  refine ⟨_, c - lo, by rw [List.length_drop, e2], by rw [List.length_drop]; omega, by omega, fun h0 => ?_⟩
  rw [List.length_drop] at h0
  obtain ⟨b, o, rfl, hlt, hc⟩ := hp (by omega)
  refine ⟨b, o + lo, ?_, hlt, fun j hj => ?_⟩
  · rw [if_neg (by omega)]; simp [Addr.add]
  · rw [List.length_drop] at hj
    rw [Nat.add_assoc, hc (lo + j) (by omega)]
    simp

theorem wpList_make_zero64 {ops : Array Oper} {rest : List Oper} {o : Oper} {a : Act} {Q : Exit → Act → World → Prop} (hg : o.guard = none) (lx cx : Operand) (t : TypeId) (hop : o.op = Op.makeSlice t lx cx)
    (ht : P.underlying t = some (.slice 5)) (i : TypeInfo) (hi : P.info? 5 = some i) (hz : i.zero = some (.int .u8 0)) (hs : i.size = 1) (hb : i.bytes = 1)
    (n : Nat) (hl : a.eval lx = .int .u64 (n : Int)) (hc : a.eval cx = .int .u64 (n : Int)) (hn : n ≤ 140737488355328)
    (h : Blk (w.alloc (.cells (bcells (List.replicate n 0)).toArray 5)) w.heap.size (List.replicate n 0) → wpList P ops Q rest (a.put o.dst (.slice (some ⟨w.heap.size, 0, none⟩) n n)) (w.alloc (.cells (bcells (List.replicate n 0)).toArray 5))) :
    wpList P ops Q (o :: rest) a w := by
  refine wpList_plain hg fun K hK => ?_
  have hr := run_make (P := P) w t 5 i _ ht hi hz .u64 .u64 n n (by omega) (Int.le_refl _) (by rw [hb]; omega) (by omega)
  rw [hs] at hr
  simp only [Int.toNat_natCast] at hr
  rw [made_zeros _ _ rfl] at hr
  unfold Oper.wp execOp
  simp only [hop, hl, hc, hr, Sem.run_bind, Result.andThen_ok]
  exact hK _ _ (h (heap_alloc_new w _))

/-- the first bytes of a longer row copied over a row of its own -/
theorem wpList_copy_first {ops : Array Oper} {rest : List Oper} {o : Oper} {a : Act} {Q : Exit → Act → World → Prop} (hgd : o.guard = none) (d sx : Operand) (t : TypeId)
    (ho : o.op = .call { callee := .builtin .copy, args := #[d, sx], argTypes := #[t, t] }) (ht : P.underlying t = some (.slice 5)) (hsz : (P.info? 5).map (·.size) = some 1)
    {s : Value} {Bs n : Nat} (hd : a.eval d = .slice (some ⟨g, 0, none⟩) n n) (hs : a.eval sx = s) (hr : Rd w Bs s l) (hg : Blk w g L) (hL : L.length = n) (hn : n ≤ l.length)
    (h : ∀ w', Blk w' g (l.take n) → (∀ B, B ≤ g → Below B w w') → w'.heap.size = w.heap.size → (∀ k, k ≠ g → w'.heap[k]? = w.heap[k]?) → wpList P ops Q rest (a.put o.dst (goInt n)) w') : wpList P ops Q (o :: rest) a w := by
  refine wpList_plain hgd fun K hK => ?_
  obtain ⟨A, c, rfl, hlc, hm, hp⟩ := hr
  have hrun : ∃ w', (Builtin.copy_ #[t, t] o.type #[.slice (some ⟨g, 0, none⟩) n n, .slice A l.length c]).run P w = .ok (goInt n) w' ∧ Blk w' g (l.take n) ∧ (∀ B, B ≤ g → Below B w w') ∧ w'.heap.size = w.heap.size ∧ ∀ k, k ≠ g → w'.heap[k]? = w.heap[k]? := by
    by_cases h0 : n = 0
    · subst h0
      obtain rfl : L = [] := List.eq_nil_of_length_eq_zero hL
      exact ⟨w, run_copy_none (P := P) w t t o.type 5 _ _ _ _ _ _ ht hsz (by simp), by simpa using hg, fun _ _ => Below.refl _ _, rfl, fun _ _ => rfl⟩
    · obtain ⟨b, of, rfl, hb, hcell⟩ := hp (by omega)
      have hlt : (bcells (l.take n)).length = n := by rw [bcells_length, List.length_take]; omega
      have hrun := run_copy_row (P := P) w t t o.type 5 g 0 n n ⟨b, of, none⟩ l.length c (bcells L).toArray 5 (bcells (l.take n)) ht hsz hg (by rw [hlt]; exact (Nat.min_eq_right hn).symm)
        (fun j u hj => by
          rw [bcells_get] at hj
          obtain ⟨x, hx, rfl⟩ := Option.map_eq_some_iff.1 hj
          obtain ⟨hj', rfl⟩ := List.getElem?_eq_some_iff.1 hx
          rw [List.getElem_take]
          rw [List.length_take] at hj'
          have := hcell j (by omega)
          rw [← this]
          unfold Addr.add; split <;> simp_all)
        (by rw [hlt]; simp [bcells_length]; omega) (bcells_one _)
      rw [hlt] at hrun
      have hset := setRow_heap w g (bcells L).toArray (((bcells L).toArray.toList.take 0) ++ bcells (l.take n) ++ (bcells L).toArray.toList.drop (0 + n)).toArray 5 (0, 0) hg
      refine ⟨_, hrun, ?_, fun B hB => below_setRow (Below.refl _ _) hB _, by simp [World.setRow], fun k hk => setRow_other w g k _ hk⟩
      unfold Blk
      rw [hset]
      have : (bcells L).drop n = [] := List.drop_of_length_le (by rw [bcells_length]; omega)
      simp [this]
  obtain ⟨w', hrun, h1, h2, h3, h4⟩ := hrun
  unfold Oper.wp
  simp [execOp, ho, resolve, invoke, builtin, hd, hs]
  rw [hrun]
  exact hK _ _ (h w' h1 h2 h3 h4)
end

/-- what split answers -/
def SplitOk (w : World) (n : Nat) (l : List UInt8) (e : Ending) (w' : World) : Prop :=
  (splitN n l = none ∧ e = .returned (.tuple #[.slice none 0 0, .int .i64 0, .int .i64 52]) ∨ ∃ rs rv, splitN n l = some rs ∧ e = .returned (.tuple #[rv, .int .i64 (usedN rs : Int), .int .i64 0]) ∧ OutR w' w.heap.size rv rs) ∧ Below w.heap.size w w'

set_option maxHeartbeats 4000000 in
theorem split_any (w : World) (v : Value) (l : List UInt8) (n : Nat) (hr : Rd w w.heap.size v l) (hl : l.length ≤ 1000000000) (hn : n ≤ 1000000000) :
    Calls Try.prog 37 #[v, .int .i64 (n : Int)] w (SplitOk w n l) := by
  obtain ⟨ib, hib, hibz, hib1, hib2⟩ := info_parts Try.infoByte
  obtain ⟨i0, hi, hz, hsz, hby⟩ := info_parts Try.infoRow
  obtain ⟨A, c, rfl⟩ := hr.form
  obtain ⟨N, hN⟩ : ∃ N, N = l.length := ⟨_, rfl⟩
  rw [← hN] at hl ⊢
  have hlc : N ≤ c ∧ c ≤ 9223372036854775807 := by obtain ⟨A', c', e, h1, h2, _⟩ := hr; injection e with e1 e2 e3; subst e3; unfold maxLen at h2; omega
  rw [← hN] at hr
  have HR := Lib.hid hr
  have HN := Lib.hid hN
  clear hr hN
  have ho1 := OutR.nil w w.heap.size
  go_enter Try.func37, Try.ntmps37
  go_wp2_with fail
  go_loopw [7, 8, 13] (fun rv atv i wr => ∃ (k q : Nat) (rs : List (List UInt8)), i = .int .i64 (k : Int) ∧ atv = .int .i64 (q : Int) ∧ Hid (SplitAt n l k rs ∧ q = usedN rs) ∧ k ≤ n ∧ q ≤ N ∧ OutR wr w.heap.size rv rs ∧ Below w.heap.size w wr)
    (fun _ _ i _ => n - (intOf i).toNat)
  case atStart => exact ⟨0, 0, [], rfl, rfl, Lib.hid ⟨SplitAt.zero n l, rfl⟩, Nat.zero_le _, Nat.zero_le _, ho1, Below.refl _ _⟩
  case round =>
    clear ho1
    obtain ⟨k, q, rs, rfl, rfl, HS, hk, hq, ho, hb⟩ := hrel
    by_cases hlt : k < n
    · have i1 : (k : Int) < (n : Int) := by omega
      have i2 : (q : Int) ≤ (N : Int) := by omega
      obtain ⟨A1, hA1⟩ : ∃ A1, A1 = (if c = q then A else A.map (·.add (q * ib.size))) := ⟨_, rfl⟩
      obtain ⟨r, hr⟩ : ∃ r, r = N - q := ⟨_, rfl⟩
      obtain ⟨c1, hc1⟩ : ∃ c1, c1 = c - q := ⟨_, rfl⟩
      have hsl : ∀ W : World, (Instr.slice 40 (.slice A N c) (some (.int .i64 (q : Int))) none none).run Try.prog W = .ok (.slice A1 r c1) W := fun W => by
        rw [hA1, hr, hc1]; exact run_slice_from _ _ ib Try.underlying40 hib A N c q hq hlc.1 W
      have hrd1 : Rd w w.heap.size (.slice A1 r c1) (l.drop q) := by
        have h1 := HR.out.dropN (lo := q) (by have := HN.out; omega)
        rw [hA1, hr, hc1, hib1]
        exact h1
      have HRL := Lib.hid (show r = (l.drop q).length by rw [List.length_drop, ← HN.out]; exact hr)
      have HSL := Lib.hid hsl
      have hcr : r ≤ c1 := by omega
      have hrb : r ≤ 1000000000 := by omega
      have HRQ := Lib.hid hr
      clear hsl hA1 hc1 hr
      by_cases h8 : r < 8
      · have j1 : (r : Int) < 8 := by omega
        have hbad : splitN n l = none := HS.out.1.bad hlt (Or.inl (by have := HRQ.out; have := HN.out; have := HS.out.2; omega))
        have HB := Lib.hid (And.intro hbad hb)
        clear hbad hb ho hrd1
        have hsl := HSL.out
        go_wp2_with fail
        go_ret3
        exact ⟨Or.inl ⟨HB.out.1, rfl⟩, HB.out.2⟩
      · have j1 : ¬ (r : Int) < 8 := by omega
        have j2 : (8 : Int) ≤ (c1 : Int) := by omega
        have hsl2 : ∀ W : World, (Instr.slice 40 (.slice A1 r c1) none (some (.int .i64 8)) none).run Try.prog W = .ok (.slice A1 8 c1) W := fun W => run_slice_to _ _ ib Try.underlying40 hib A1 r c1 8 (by omega) W
        obtain ⟨A2, hA2⟩ : ∃ A2, A2 = (if c1 = 8 then A1 else A1.map (·.add (8 * ib.size))) := ⟨_, rfl⟩
        obtain ⟨r2, hr2⟩ : ∃ r2, r2 = r - 8 := ⟨_, rfl⟩
        obtain ⟨c2, hc2⟩ : ∃ c2, c2 = c1 - 8 := ⟨_, rfl⟩
        have hsl3 : ∀ W : World, (Instr.slice 40 (.slice A1 r c1) (some (.int .i64 8)) none none).run Try.prog W = .ok (.slice A2 r2 c2) W := fun W => by
          rw [hA2, hr2, hc2]; exact run_slice_from _ _ ib Try.underlying40 hib A1 r c1 8 (by omega) hcr W
        have hrd2 : Rd w w.heap.size (.slice A2 r2 c2) ((l.drop q).drop 8) := by
          have h1 := hrd1.dropN (lo := 8) (by have := HRL.out; omega)
          rw [hA2, hr2, hc2, hib1]
          exact h1
        have hrd3 : Rd w w.heap.size (.slice A1 8 c1) ((l.drop q).take 8) := hrd1.takeN (by have := HRL.out; omega)
        obtain ⟨x, hx⟩ : ∃ x, x = beVal ((l.drop q).take 8) := ⟨_, rfl⟩
        have hlen8 : ((l.drop q).take 8).length = 8 := by rw [List.length_take]; have := HRL.out; omega
        have hrn : rN ((l.drop q).take 8) 0 = (x, [], 0) := by
          unfold rN
          rw [if_neg (by simp), if_neg (by omega), List.take_take, Nat.min_self, ← hx, List.drop_of_length_le (by omega)]
        have hx64 : x < 18446744073709551616 := by have := beVal_lt8 ((l.drop q).take 8) 8 (by omega); rw [hx]; exact this
        have hl3 : ((l.drop q).take 8).length ≤ 140737488355320 := by omega
        have HX := Lib.hid hx
        have HRN := Lib.hid hrn
        have HSL3 := Lib.hid hsl3
        have HR2 := Lib.hid hr2
        have HRD2 := Lib.hid hrd2
        have hr2b : r2 ≤ 1000000000 := by omega
        clear hrd1 hA2 hc2 hx hrn hsl3 hrd2 hlen8 hr2
        obtain ⟨l8, hl8⟩ : ∃ l8, l8 = (l.drop q).take 8 := ⟨_, rfl⟩
        rw [← hl8] at hrd3 hl3
        have HL8 := Lib.hid (show rN l8 0 = (x, [], 0) by rw [hl8]; exact HRN.out)
        clear hl8
        have hsl := HSL.out
        go_wp2_with fail
        clear hsl hsl2
        refine (open_rd _ l8 wr ((hrd3.below hb).more hb.size) hl3).mono ?_
        rintro e w1 ⟨g, rfl, hrdr, hb1⟩
        have hq1 := below_chain hb hb.size hb1
        have ho1 := ho.below hb1
        go_wp2_with fail
        refine (rN_any hrdr).mono ?_
        rintro e w2 ⟨rfl, hrdr2, hg2⟩
        rw [HL8.out]
        have hbb : Below wr.heap.size wr w2 := hb1.trans (below_of_grownBy hg2 hrdr.from_ hrdr.lt)
        have hq2 := below_chain hb hb.size hbb
        have ho2 := ho.below hbb
        have k2 : IntKind.u64.wrap (r2 : Int) = (r2 : Int) := by rw [IntKind.wrap_u64]; omega
        have k3 : (0 : Int) ≤ (x : Int) := by omega
        clear hrdr hrdr2 hg2 hb1 hq1 ho1 hbb ho hb hrd3 hl3
        have hsl3 := HSL3.out
        dsimp only
        by_cases hxr : r2 < x
        · have j3 : (r2 : Int) < (x : Int) := by omega
          have hbad : splitN n l = none := HS.out.1.bad hlt (Or.inr (by
            have h1 := HRQ.out; have h2 := HN.out; have h3 := HS.out.2; have h4 := HX.out; have h5 := HR2.out
            rw [← h3, ← h4]; omega))
          have HB := Lib.hid (And.intro hbad hq2)
          clear hbad hq2 ho2
          go_wp2_with fail
          go_ret3
          exact ⟨Or.inl ⟨HB.out.1, rfl⟩, HB.out.2⟩
        · have j3 : ¬ (r2 : Int) < (x : Int) := by omega
          obtain ⟨Ap, cp, rfl⟩ := ho2.form
          have hnx := HS.out.1.next hlt (x := x) (by rw [← HS.out.2]; exact HX.out.symm) (by have h1 := HRQ.out; have h2 := HN.out; have h3 := HS.out.2; have h5 := HR2.out; omega)
          have hrsl : rs.length ≤ 1000000000 := by have := HS.out.1.2.1; omega
          obtain ⟨L, hL⟩ : ∃ L, L = ((l.drop q).drop 8).take x := ⟨_, rfl⟩
          have hxl : x ≤ ((l.drop q).drop 8).length := by have h1 := HRL.out; have h2 := HR2.out; rw [List.length_drop]; omega
          have hLl : L.length = x := by rw [hL, List.length_take]; omega
          rw [show (l.drop (usedN rs + 8)).take x = L by rw [hL, List.drop_drop, ← HS.out.2]] at hnx
          have HNX := Lib.hid hnx
          have HLL := Lib.hid hLl
          have HL := Lib.hid hL
          have hrd2 := (HRD2.out.below hq2)
          have e1 : IntKind.i64.wrap (8 + (x : Int)) = ((8 + x : Nat) : Int) := by rw [IntKind.wrap_i64]; omega
          have e2 : IntKind.i64.wrap ((q : Int) + ((8 + x : Nat) : Int)) = ((q + (8 + x) : Nat) : Int) := by rw [IntKind.wrap_i64]; omega
          have HXL := Lib.hid hxl
          clear hnx hL hLl hxl
          go_wp2_with (
            first
              | (
                at_make
                refine wpList_make_zero64 rfl (.tmp 32) (.tmp 32) _ rfl Try.underlying40 ib hib hibz hib1 hib2 x rfl rfl (by omega) ?_
                intro hb3
                have hbw3 : Below w2.heap.size w2 (w2.alloc (.cells (bcells (List.replicate x 0)).toArray 5)) := (Below.refl _ _).alloc (Nat.le_refl _) _
                have hr3 := hrd2.below (hbw3.mono hq2.size)
                generalize w2.alloc (.cells (bcells (List.replicate x 0)).toArray 5) = w3 at *
                obtain ⟨g3, hg3⟩ : ∃ g3, g3 = w2.heap.size := ⟨_, rfl⟩
                rw [← hg3] at hb3
                simp only [← hg3]
                have HG := Lib.hid hg3
                have HB3 := Lib.hid hbw3
                clear hg3 hrd2 hbw3)
              | (
                with_reducible refine at_copy ?_
                refine wpList_copy_first rfl (.tmp 34) (.tmp 35) _ rfl Try.underlying40 Try.sizeByte rfl rfl hr3 hb3 (by simp) HXL.out ?_
                intro w4 hb4 hbw4 hsz4 _
                have hb24 : Below w2.heap.size w2 w4 := HB3.out.trans (hbw4 _ (Nat.le_of_eq HG.out.symm))
                have hq4 := below_chain hq2 hq2.size hb24
                have ho4 := ho2.below hb24
                rw [← HL.out] at hb4
                have hown : Own w4 w2.heap.size (.slice (some ⟨g3, 0, none⟩) x x) L := by
                  have h1 := hb4.own (B := w2.heap.size) (by have := HG.out; omega) (by have := HLL.out; unfold maxLen; omega)
                  rw [HLL.out] at h1
                  exact h1
                have hbx : Below w4.heap.size w4 (w4.alloc (.cells #[.slice (some ⟨g3, 0, none⟩) x x] 40)) := (Below.refl _ _).alloc (Nat.le_refl _) _
                have hc5 : (w4.alloc (.cells #[.slice (some ⟨g3, 0, none⟩) x x] 40)).cell? ⟨w4.heap.size, 0, none⟩ = some (.slice (some ⟨g3, 0, none⟩) x x) := blk_cell (heap_alloc_new w4 _) 0
                clear hb3 hb4 hbw4 hsz4 hr3 HB3)
              | (at_builtin; refine wpList_append_out rfl (.tmp 37) (.tmp 39) _ rfl i0 Try.underlying33 hi hz hsz hby rfl ho2 (hb24.trans (hbx.mono hb24.size)) hq2.size rfl hc5 (hown.below hbx) hrsl ?_; intro v5 w5 ho5 hg5; have hq5 : Below w.heap.size w w5 := (ho4.below hbx).own_below (hq4.alloc hq4.size _) (Nat.le_trans hq4.size hbx.size) hg5))
          exact ⟨⟨k + 1, q + (8 + x), rs ++ [L], by go_num, rfl, Lib.hid ⟨HNX.out.1, by rw [HNX.out.2, ← HS.out.2]⟩, by omega, by have h1 := HRQ.out; have h5 := HR2.out; omega, ho5, hq5⟩, by simp [intOf]; omega⟩
    · have i1 : ¬ (k : Int) < (n : Int) := by omega
      obtain ⟨Ap, cp, hform⟩ := ho.form
      have hdone := HS.out.1.done hlt
      have HD := Lib.hid (And.intro hdone (And.intro HS.out.2 (And.intro ho hb)))
      clear hdone ho hb
      subst hform
      go_wp2_with fail
      go_ret3
      obtain ⟨h1, h2, h3, h4⟩ := HD.out
      subst h2
      exact ⟨Or.inr ⟨rs, _, h1, rfl, h3⟩, h4⟩
end Go.Proofs.Ytbbpkenbeenocaa
