
/- The document's node: read, records, settle. The document's node: Open. The document's node: Put. -/
import Derived.Test.YtbbpkenbeenocaaNodeC
import Derived.Test.YtbbpkenbeenocaaWireDoc
import Derived.Test.YtbbpkenbeenocaaRefN
import Derived.Test.YtbbpkenbeenocaaDiskG0
import Derived.Test.YtbbpkenbeenocaaNodeG
import Derived.Test.YtbbpkenbeenocaaRDiskD
import Derived.Deep.RegionHeldLaw
namespace Go.Proofs.Ytbbpkenbeenocaa
set_option maxRecDepth 100000
open Go Go.RowKit
set_option linter.unusedVariables false
variable {w : World} {F : Nat → Prop} {d : Nat} {m : DM}

theorem rnread_any (h : RefAt w F d m) (s : ByteArray) (hlen : ∀ f ∈ m.files, f.data.length ≤ 140737488355320) :
    Calls Try.prog 39 #[.pointer (some ⟨d, 0, none⟩), .string s] w fun e w' => ∃ v, e = .returned (.tuple #[v, .bool (readN m s).2.1, .int .i64 (readN m s).2.2]) ∧ Own w' w.heap.size v (readN m s).1 ∧ Below w.heap.size w w' := by
  have HR := Lib.hid (rread_any h s hlen)
  clear h hlen
  rcases read_split m s with ⟨e1, _, e2⟩ | ⟨e1, _, e2⟩ | ⟨l, e1, _, e2⟩
  all_goals
    rw [e2]
    rw [e1] at HR
    clear e1 e2
    go_enter Try.func39, Try.ntmps39
    go_wp2_with fail
    refine HR.out.mono ?_
    rintro e w1 ⟨v1, rfl, ho, hb⟩
    go_wp2_with fail
    go_ret3
    first
      | exact ⟨_, rfl, ho, hb⟩
      | exact ⟨_, rfl, Own.nil _ _, hb⟩

theorem settle_any (h : RefAt w F d m) (s : ByteArray) (there : Bool) (size keep : Nat) (hs : size ≤ 1000000000) (hk : keep ≤ 1000000000) (hlen : ∀ f ∈ m.files, f.data.length ≤ 1000000000) :
    Calls Try.prog 41 #[.pointer (some ⟨d, 0, none⟩), .string s, .bool there, .int .i64 (size : Int), .int .i64 (keep : Int)] w fun e w' =>
      e = .returned (.int .i64 (trimN m s there size keep).1) ∧ RefAt w' F d (trimN m s there size keep).2 ∧ Chg w w' F := by
  have H0 := Lib.hid h
  have HL := Lib.hid hlen
  clear h hlen
  cases there with
  | false =>
    have e : trimN m s false size keep = (0, m) := by simp [trimN]
    rw [e]
    clear e
    go_enter Try.func41, Try.ntmps41
    go_wp2_with fail
    go_ret
    exact ⟨rfl, H0.out, Chg.refl _ _⟩
  | true =>
    by_cases hks : keep < size
    · have i1 : (keep : Int) < (size : Int) := by omega
      have HT := Lib.hid (rtrunc_any H0.out s (keep : Int) ⟨by omega, by omega⟩ HL.out)
      obtain ⟨x, hx⟩ : ∃ x, x = (truncM m s (keep : Int)).1 := ⟨_, rfl⟩
      obtain ⟨m1, hm1⟩ : ∃ m1, m1 = (truncM m s (keep : Int)).2 := ⟨_, rfl⟩
      by_cases hx0 : x = 0
      · have e : trimN m s true size keep = syncM m1 s := by unfold trimN; rw [if_pos rfl, if_pos hks, if_pos (by rw [← hx]; exact hx0), ← hm1]
        rw [e]
        rw [← hx, ← hm1, hx0] at HT
        clear e hx hm1 hx0
        go_enter Try.func41, Try.ntmps41
        go_wp2_with fail
        refine HT.out.mono ?_
        rintro e w1 ⟨rfl, h1, hc1⟩
        have HC := Lib.hid hc1
        clear hc1
        go_wp2_with fail
        refine (rsync_any h1 s).mono ?_
        rintro e w2 ⟨rfl, h2, hc2⟩
        have HX := Lib.hid (And.intro h2 (HC.out.trans' hc2))
        clear h2 hc2
        go_wp2_with fail
        go_ret
        exact ⟨rfl, HX.out⟩
      · have e : trimN m s true size keep = (x, m1) := by
          unfold trimN; rw [if_pos rfl, if_pos hks, if_neg (by rw [← hx]; exact hx0), hx, hm1]
        rw [e]
        rw [← hx, ← hm1] at HT
        have j1 : (x != 0) = true := by simp [hx0]
        clear e hx hm1
        go_enter Try.func41, Try.ntmps41
        go_wp2_with fail
        refine HT.out.mono ?_
        rintro e w1 ⟨rfl, h1, hc1⟩
        have HX := Lib.hid (And.intro h1 hc1)
        clear h1 hc1
        go_wp2_with fail
        go_ret
        exact ⟨rfl, HX.out⟩
    · have i1 : ¬ (keep : Int) < (size : Int) := by omega
      have e : trimN m s true size keep = syncM m s := by unfold trimN; rw [if_pos rfl, if_neg hks]
      rw [e]
      clear e
      go_enter Try.func41, Try.ntmps41
      go_wp2_with fail
      refine (rsync_any H0.out s).mono ?_
      rintro e w2 ⟨rfl, h2, hc2⟩
      have HX := Lib.hid (And.intro h2 hc2)
      clear h2 hc2
      go_wp2_with fail
      go_ret
      exact ⟨rfl, HX.out⟩

theorem run_slice_mid {P : Program} (t e : TypeId) (i : TypeInfo) (ht : P.underlying t = some (.slice e)) (hi : P.info? e = some i) (A : Option Addr) (L c lo hi' : Nat) (hn : lo ≤ hi') (hL : hi' ≤ c) (W : World) :
    (Instr.slice t (.slice A L c) (some (.int .i64 (lo : Int))) (some (.int .i64 (hi' : Int))) none).run P W = .ok (.slice (if c = lo then A else A.map (·.add (lo * i.size))) (hi' - lo) (c - lo)) W := by
  have h1 : (lo : Int) ≤ (hi' : Int) := by omega
  have h2 : (hi' : Int) ≤ (c : Int) := by omega
  simp [Instr.slice, run_underlying ht, Instr.sliceBounds, Instr.sliceBound, asIntOf, sizeOf, typeInfo, hi, h1, h2]
  rw [if_pos hL]
  simp
  intro h
  omega

/-- what records answers -/
def RecOk (w : World) (n : Nat) (l : List UInt8) (e : Ending) (w' : World) : Prop :=
  (splitN n l = none ∧ e = .returned (.tuple #[.slice none 0 0, .int .i64 0, .bool false]) ∨ ∃ rs rv, splitN n l = some rs ∧ e = .returned (.tuple #[rv, .int .i64 (usedN rs : Int), .bool true]) ∧ OutR w' w.heap.size rv rs) ∧ Below w.heap.size w w'

set_option maxHeartbeats 4000000 in
theorem records_any (w : World) (v : Value) (l : List UInt8) (n : Nat) (hr : Rd w w.heap.size v l) (hl : l.length ≤ 1000000000) (hn : n ≤ 1000000000) :
    Calls Try.prog 40 #[v, .int .i64 (n : Int)] w (RecOk w n l) := by
  obtain ⟨ib, hib, hibz, hib1, hib2⟩ := info_parts Try.infoByte
  obtain ⟨i0, hi, hz, hsz, hby⟩ := info_parts Try.infoRow
  obtain ⟨A, c, rfl⟩ := hr.form
  obtain ⟨N, hN⟩ : ∃ N, N = l.length := ⟨_, rfl⟩
  rw [← hN] at hl ⊢
  have hlc : N ≤ c ∧ c ≤ 9223372036854775807 := by obtain ⟨A', c', e, h1, h2, _⟩ := hr; injection e with e1 e2 e3; subst e3; unfold maxLen at h2; omega
  rw [← hN] at hr
  have HR := Lib.hid hr
  have HN := Lib.hid hN
  clear hr hN
  have ho1 := OutR.nil w w.heap.size
  go_enter Try.func40, Try.ntmps40
  go_wp2_with fail
  go_loopw [7, 8, 9] (fun rv atv i wr => ∃ (k q : Nat) (rs : List (List UInt8)), i = .int .i64 (k : Int) ∧ atv = .int .i64 (q : Int) ∧ Hid (SplitAt n l k rs ∧ q = usedN rs) ∧ k ≤ n ∧ q ≤ N ∧ OutR wr w.heap.size rv rs ∧ Below w.heap.size w wr)
    (fun _ _ i _ => n - (intOf i).toNat)
  case atStart => exact ⟨0, 0, [], rfl, rfl, Lib.hid ⟨SplitAt.zero n l, rfl⟩, Nat.zero_le _, Nat.zero_le _, ho1, Below.refl _ _⟩
  case round =>
    clear ho1
    obtain ⟨k, q, rs, rfl, rfl, HS, hk, hq, ho, hb⟩ := hrel
    by_cases hlt : k < n
    · have i1 : (k : Int) < (n : Int) := by omega
      have i2 : (q : Int) ≤ (N : Int) := by omega
      obtain ⟨A1, hA1⟩ : ∃ A1, A1 = (if c = q then A else A.map (·.add (q * ib.size))) := ⟨_, rfl⟩
      obtain ⟨r, hr⟩ : ∃ r, r = N - q := ⟨_, rfl⟩
      obtain ⟨c1, hc1⟩ : ∃ c1, c1 = c - q := ⟨_, rfl⟩
      have hsl : ∀ W : World, (Instr.slice 40 (.slice A N c) (some (.int .i64 (q : Int))) none none).run Try.prog W = .ok (.slice A1 r c1) W := fun W => by
        rw [hA1, hr, hc1]; exact run_slice_from _ _ ib Try.underlying40 hib A N c q hq hlc.1 W
      have hrd1 : Rd w w.heap.size (.slice A1 r c1) (l.drop q) := by
        have h1 := HR.out.dropN (lo := q) (by have := HN.out; omega)
        rw [hA1, hr, hc1, hib1]
        exact h1
      have HRL := Lib.hid (show r = (l.drop q).length by rw [List.length_drop, ← HN.out]; exact hr)
      have hrb : r ≤ 1000000000 := by omega
      have HRQ := Lib.hid hr
      clear hA1 hc1 hr
      have hl3 : (l.drop q).length ≤ 140737488355320 := by rw [← HRL.out]; omega
      go_wp2_with fail
      clear hsl
      refine (open_dd _ (l.drop q) wr ((hrd1.below hb).more hb.size) hl3).mono ?_
      rintro e w1 ⟨g, rfl, hrdr, hb1⟩
      go_wp2_with fail
      refine (dN_any hrdr).mono ?_
      rintro e w2 ⟨rfl, hrdr2, hg2⟩
      have hbb : Below wr.heap.size wr w2 := hb1.trans (below_of_grownBy hg2 hrdr.from_ hrdr.lt)
      have hq2 := below_chain hb hb.size hbb
      have ho2 := ho.below hbb
      clear hrdr hg2 hb1 hbb ho hb hl3 hrd1
      by_cases h8 : r < 8
      · have hrn : rN (l.drop q) 0 = (0, l.drop q, 20) := by unfold rN; rw [if_neg (by simp), if_pos (by rw [← HRL.out]; exact h8)]
        have hbad : splitN n l = none := HS.out.1.bad hlt (Or.inl (by have := HRQ.out; have := HN.out; have := HS.out.2; omega))
        have HB := Lib.hid (And.intro hbad hq2)
        rw [hrn] at hrdr2 ⊢
        clear hbad hq2 ho2 hrn
        dsimp only at hrdr2 ⊢
        go_wp2_with fail
        refine (dErr_any hrdr2).mono ?_
        rintro e w3 ⟨rfl, rfl⟩
        clear hrdr2
        go_wp2_with fail
        go_ret3
        exact ⟨Or.inl ⟨HB.out.1, rfl⟩, HB.out.2⟩
      · obtain ⟨x, hx⟩ : ∃ x, x = beVal ((l.drop q).take 8) := ⟨_, rfl⟩
        have hrn : rN (l.drop q) 0 = (x, (l.drop q).drop 8, 0) := by
          unfold rN
          rw [if_neg (by simp), if_neg (by rw [← HRL.out]; exact h8), ← hx]
        have hx64 : x < 18446744073709551616 := by have := beVal_lt8 ((l.drop q).take 8) 8 (by simp; omega); rw [hx]; exact this
        obtain ⟨r2, hr2⟩ : ∃ r2, r2 = r - 8 := ⟨_, rfl⟩
        have hr2l : ((l.drop q).drop 8).length = r2 := by rw [List.length_drop, ← HRL.out, hr2]
        have hr2b : r2 ≤ 1000000000 := by omega
        have hr8 : 8 + r2 = r := by omega
        have HX := Lib.hid hx
        have HR8 := Lib.hid hr8
        have HR2L := Lib.hid hr2l
        rw [hrn] at hrdr2 ⊢
        dsimp only at hrdr2 ⊢
        clear hrn hr2 hx hr2l hr8
        have k2 : IntKind.u64.wrap (r2 : Int) = (r2 : Int) := by rw [IntKind.wrap_u64]; omega
        have k3 : (0 : Int) ≤ (x : Int) := by omega
        go_wp2_with fail
        refine (dErr_any hrdr2).mono ?_
        rintro e w3 ⟨rfl, rfl⟩
        go_wp2_with fail
        refine (dLeft_any hrdr2).mono ?_
        rintro e w3 ⟨rfl, rfl⟩
        rw [HR2L.out]
        clear hrdr2
        by_cases hxr : r2 < x
        · have j3 : (r2 : Int) < (x : Int) := by omega
          have hbad : splitN n l = none := HS.out.1.bad hlt (Or.inr (by
            have h1 := HRQ.out; have h2 := HN.out; have h3 := HS.out.2; have h4 := HX.out; have h5 := HR8.out
            rw [← h3, ← h4]; omega))
          have HB := Lib.hid (And.intro hbad hq2)
          clear hbad hq2 ho2
          go_wp2_with fail
          go_ret3
          exact ⟨Or.inl ⟨HB.out.1, rfl⟩, HB.out.2⟩
        · have j3 : ¬ (r2 : Int) < (x : Int) := by omega
          obtain ⟨Ap, cp, rfl⟩ := ho2.form
          have hnx := HS.out.1.next hlt (x := x) (by rw [← HS.out.2]; exact HX.out.symm) (by have h1 := HRQ.out; have h2 := HN.out; have h3 := HS.out.2; have h5 := HR8.out; omega)
          have hrsl : rs.length ≤ 1000000000 := by have := HS.out.1.2.1; omega
          obtain ⟨L, hL⟩ : ∃ L, L = (l.drop (q + 8)).take x := ⟨_, rfl⟩
          have hLl : L.length = x := by rw [hL, List.length_take, List.length_drop]; have h1 := HRQ.out; have h2 := HN.out; have h5 := HR8.out; omega
          rw [show (l.drop (usedN rs + 8)).take x = L by rw [hL, ← HS.out.2]] at hnx
          have HNX := Lib.hid hnx
          have HLL := Lib.hid hLl
          obtain ⟨A3, hA3⟩ : ∃ A3, A3 = (if c = q + 8 then A else A.map (·.add ((q + 8) * ib.size))) := ⟨_, rfl⟩
          obtain ⟨c3, hc3⟩ : ∃ c3, c3 = c - (q + 8) := ⟨_, rfl⟩
          have hqx : q + 8 + x ≤ N := by have h1 := HRQ.out; have h5 := HR8.out; omega
          have hsl3 : ∀ W : World, (Instr.slice 40 (.slice A N c) (some (.int .i64 ((q + 8 : Nat) : Int))) (some (.int .i64 ((q + 8 + x : Nat) : Int))) none).run Try.prog W = .ok (.slice A3 x c3) W := fun W => by
            have h1 := run_slice_mid (P := Try.prog) 40 _ ib Try.underlying40 hib A N c (q + 8) (q + 8 + x) (by omega) (by omega) W
            rw [h1, ← hA3, ← hc3, show q + 8 + x - (q + 8) = x by omega]
          have hrd3 : Rd w w.heap.size (.slice A3 x c3) L := by
            have h1 := (HR.out.dropN (lo := q + 8) (by have := HN.out; omega)).takeN (n := x) (by rw [List.length_drop]; have := HN.out; omega)
            rw [← hL] at h1
            rw [hA3, hc3, hib1]
            exact h1
          obtain ⟨y, hy⟩ : ∃ y : Nat, y = q + 8 := ⟨_, rfl⟩
          obtain ⟨z, hzz⟩ : ∃ z : Nat, z = y + x := ⟨_, rfl⟩
          rw [← hy, ← hzz] at hsl3
          have e1 : IntKind.i64.wrap ((q : Int) + 8) = (y : Int) := by rw [IntKind.wrap_i64]; omega
          have e0 : IntKind.i64.wrap (x : Int) = (x : Int) := by rw [IntKind.wrap_i64]; omega
          have e2 : IntKind.i64.wrap ((y : Int) + (x : Int)) = (z : Int) := by rw [IntKind.wrap_i64]; omega
          have e3 : IntKind.i64.wrap (8 + (x : Int)) = ((8 + x : Nat) : Int) := by rw [IntKind.wrap_i64]; omega
          have e4 : IntKind.i64.wrap ((q : Int) + ((8 + x : Nat) : Int)) = ((q + (8 + x) : Nat) : Int) := by rw [IntKind.wrap_i64]; omega
          have HRD3 := Lib.hid hrd3
          have HQX := Lib.hid hqx
          clear hnx hL hLl hrd3 hA3 hc3 hy hzz hqx
          have ho2a := ho2.below ((Below.refl w2.heap.size w2).alloc (Nat.le_refl _) (.cells #[] 5))
          have hq2a : Below w.heap.size w (w2.alloc (.cells #[] 5)) := hq2.alloc hq2.size _
          have HQ2A := Lib.hid (And.intro hq2a (HRD3.out.below hq2a))
          have hs2 := hq2.size
          have HSZ := Lib.hid ((Below.refl w2.heap.size w2).alloc (Nat.le_refl _) (.cells #[] 5)).size
          clear hq2a
          go_wp2_with (
            first
              | (at_builtin; refine wpList_append_rd rfl (.tmp 34) (.tmp 43) _ rfl ib Try.underlying40 hib hibz hib1 hib2 rfl (own_empty w2 (Nat.le_refl _)) rfl HQ2A.out.2 (by rw [HLL.out, List.length_nil]; omega) HSZ.out ?_; intro v4 w4 ho4 hg4 _; have hb24 : Below w2.heap.size w2 w4 := Own.below_grown ((Below.refl _ _).alloc (Nat.le_refl _) _) (own_empty w2 (Nat.le_refl _)) (Nat.le_refl _) HSZ.out hg4; have ho4a : Own w4 w2.heap.size v4 L := ho4; obtain ⟨A4, c4, hv4⟩ := ho4a.form' HLL.out; subst hv4; have hq4 := below_chain hq2 hs2 hb24; have hor4 := ho2.below hb24; have hown : Own w4 w2.heap.size (.slice A4 x c4) L := ho4a; have hbx : Below w4.heap.size w4 (w4.alloc (.cells #[.slice A4 x c4] 40)) := (Below.refl _ _).alloc (Nat.le_refl _) _; have hc5 : (w4.alloc (.cells #[.slice A4 x c4] 40)).cell? ⟨w4.heap.size, 0, none⟩ = some (.slice A4 x c4) := blk_cell (heap_alloc_new w4 _) 0; clear ho4 hg4 ho4a ho2a)
              | (at_builtin; refine wpList_append_out rfl (.tmp 33) (.tmp 45) _ rfl i0 Try.underlying33 hi hz hsz hby rfl ho2 (hb24.trans (hbx.mono hb24.size)) hs2 rfl hc5 (hown.below hbx) hrsl ?_; intro v5 w5 ho5 hg5; have hq5 : Below w.heap.size w w5 := (hor4.below hbx).own_below (hq4.alloc hq4.size _) (Nat.le_trans hq4.size hbx.size) hg5))
          exact ⟨⟨k + 1, q + (8 + x), rs ++ [L], by go_num, rfl, Lib.hid ⟨HNX.out.1, by rw [HNX.out.2, ← HS.out.2]⟩, by omega, by have h1 := HRQ.out; have h5 := HR8.out; omega, ho5, hq5⟩, by simp [intOf]; omega⟩
    · have i1 : ¬ (k : Int) < (n : Int) := by omega
      obtain ⟨Ap, cp, hform⟩ := ho.form
      have hdone := HS.out.1.done hlt
      have HD := Lib.hid (And.intro hdone (And.intro HS.out.2 (And.intro ho hb)))
      clear hdone ho hb
      subst hform
      go_wp2_with fail
      go_ret3
      obtain ⟨h1, h2, h3, h4⟩ := HD.out
      subst h2
      exact ⟨Or.inr ⟨rs, _, h1, rfl, h3⟩, h4⟩
end Go.Proofs.Ytbbpkenbeenocaa
namespace Go.Proofs.Ytbbpkenbeenocaa
open Go Go.RowKit
set_option linter.unusedVariables false
variable {w : World} {F : Nat → Prop} {d : Nat} {m : DM}

/-- the document's node: its disk, how many records, is it sick -/
def RNodeIs (w : World) (nd d cnt : Nat) (bad : Bool) : Prop := w.heap[nd]? = some (.cells #[.pointer (some ⟨d, 0, none⟩), .int .i64 (cnt : Int), .bool bad] 47 (0, 0))
/-- what the document's Open answers -/
def ROpenOk (w : World) (F : Nat → Prop) (d : Nat) (r : Int × DM × List (List UInt8)) (e : Ending) (w' : World) : Prop :=
  (if r.1 = 0 then ∃ nd rv, e = .returned (.tuple #[.pointer (some ⟨nd, 0, none⟩), rv, .int .i64 0]) ∧ w.heap.size ≤ nd ∧ RNodeIs w' nd d r.2.2.length false ∧ OutR w' w.heap.size rv r.2.2
   else e = .returned (.tuple #[.pointer none, .slice none 0 0, .int .i64 r.1])) ∧ RefAt w' F d r.2.1 ∧ Chg w w' F

set_option maxHeartbeats 4000000 in
theorem rnopen_any (h : RefAt w F d m) (hlen : ∀ f ∈ m.files, f.data.length ≤ 1000000000) :
    Calls Try.prog 12 #[.pointer (some ⟨d, 0, none⟩)] w (ROpenOk w F d (openN m)) := by
  have H0 := Lib.hid h
  have HL := Lib.hid hlen
  have hlt : ∀ k, F k → k < w.heap.size := h.lt
  have HLT := Lib.hid hlt
  have hll := readN_len (s := sLog) hlen
  have hml := readN_len (s := sMarks) hlen
  have HRL := Lib.hid (rnread_any h sMarks (fun f hf => by have := hlen f hf; omega))
  clear h hlen hlt
  by_cases ho : m.off = true
  · have e : openN m = (51, m, []) := by unfold openN; rw [if_pos ho]
    have e1 : readN m sMarks = ([], false, 51) := by unfold readN; rw [if_pos ho]
    rw [e]
    rw [e1] at HRL
    clear e e1 ho hll hml
    go_enter Try.func12, Try.ntmps12
    go_wp2_with fail
    refine HRL.out.mono ?_
    rintro e w1 ⟨v1, rfl, ho1, hb1⟩
    have HX := Lib.hid (And.intro (H0.out.below hb1) (Chg.of_below hb1 F))
    clear ho1 hb1
    go_wp2_with fail
    go_ret3
    exact ⟨by rw [if_neg (show ¬ (51 : Int) = 0 by decide)] <;> rfl, HX.out⟩
  · have hrd : ∀ s, ∃ l t, readN m s = (l, t, 0) := by
      intro s
      unfold readN
      rw [if_neg ho]
      split
      · exact ⟨_, _, rfl⟩
      · exact ⟨_, _, rfl⟩
    obtain ⟨lg, lt, hlg⟩ := hrd sLog
    obtain ⟨mk, mt, hmk⟩ := hrd sMarks
    have hmle := marked_le mk
    have HS := Lib.hid (splitN_length (marked mk) lg)
    have e : openN m = (match splitN (marked mk) lg with
      | none => (52, m, [])
      | some rs => if (trimN m sMarks mt mk.length (marked mk)).1 = 0 then
          (if (trimN (trimN m sMarks mt mk.length (marked mk)).2 sLog lt lg.length (usedN rs)).1 = 0 then (0, (trimN (trimN m sMarks mt mk.length (marked mk)).2 sLog lt lg.length (usedN rs)).2, rs)
            else ((trimN (trimN m sMarks mt mk.length (marked mk)).2 sLog lt lg.length (usedN rs)).1, (trimN (trimN m sMarks mt mk.length (marked mk)).2 sLog lt lg.length (usedN rs)).2, []))
          else ((trimN m sMarks mt mk.length (marked mk)).1, (trimN m sMarks mt mk.length (marked mk)).2, [])) := by
      unfold openN
      rw [if_neg ho, hlg, hmk] <;> rfl
    rw [hlg] at hll
    rw [hmk] at hml HRL
    dsimp only at hll hml
    have HE := Lib.hid e
    have HLG := Lib.hid hlg
    have HMS := Lib.hid (marked_step mk)
    clear e ho hrd hlg hmk
    obtain ⟨M, hM⟩ : ∃ M, M = marked mk := ⟨_, rfl⟩
    obtain ⟨nm, hnm⟩ : ∃ nm, nm = mk.length := ⟨_, rfl⟩
    rw [← hM] at hmle HMS
    rw [← hnm] at hml hmle
    have HNM := Lib.hid hnm
    have HM := Lib.hid hM
    clear hM hnm
    go_enter Try.func12, Try.ntmps12
    go_wp2_with fail
    refine HRL.out.mono ?_
    rintro e w1 ⟨v1, rfl, ho1, hb1⟩
    have ho1 : Own w1 w.heap.size v1 mk := ho1
    obtain ⟨A1, c1, rfl⟩ := ho1.form' HNM.out.symm
    have h1 := H0.out.below hb1
    go_wp2_with fail
    refine (rnread_any h1 sLog (fun f hf => by have := HL.out f hf; omega)).mono ?_
    rintro e w2 ⟨v2, rfl, ho2, hb2⟩
    rw [HLG.out] at ho2 ⊢
    have h2 := h1.below hb2
    have hq2 := below_chain hb1 hb1.size hb2
    have ho12 := ho1.below hb2
    have ho2 : Own w2 w1.heap.size v2 lg := ho2
    obtain ⟨nl, hnl⟩ : ∃ nl, nl = lg.length := ⟨_, rfl⟩
    obtain ⟨A2, c2, rfl⟩ := ho2.form' hnl.symm
    have HNL := Lib.hid hnl
    rw [← hnl] at hll
    have hr1 := ho12.rd
    have hr2 := ho2.rd
    clear h1 ho1 hb1 hb2 ho12 ho2 hnl
    dsimp only
    go_wp2_with fail
    obtain ⟨A', c', e', hc, hm, hp⟩ := hr1
    injection e' with e1 e2 e3
    subst e1; subst e3
    unfold maxLen at hm
    have HP := Lib.hid hp
    have hc' : nm ≤ c1 := by have := HNM.out; omega
    clear hc hp e2
    go_loopw [10] (fun i wr => ∃ k : Nat, k ≤ M ∧ i = .int .i64 (k : Int) ∧ w2 = wr)
      (fun i _ => nm - (intOf i).toNat)
    case atStart => exact ⟨0, Nat.zero_le _, rfl, rfl⟩
    case round =>
      obtain ⟨k, hk, rfl, rfl⟩ := hrel
      have hs := HMS.out k hk
      have hnml := HNM.out
      by_cases hkM : k < M
      · obtain ⟨hkl, hx⟩ := hs.1 hkM
        obtain ⟨b, o, rfl, hb, hcell⟩ := HP.out (by omega)
        have hck := hcell k hkl
        unfold bval at hck
        rw [hx] at hck
        have hck' : w2.cell? ⟨b, o + k, none⟩ = some (.int .u8 1) := hck
        have i1 : (k : Int) < (nm : Int) := by omega
        have i0 : (0 : Int) ≤ (k : Int) := by omega
        have i3 : decide ((k : Int) < (nm : Int)) = true := by simp [i1]
        clear hck hcell hs hnml hx
        go_wp2_with fail
        exact ⟨⟨k + 1, by omega, by go_num, by first | rfl | trivial⟩, by simp [intOf]; omega⟩
      · obtain rfl : k = M := by omega
        have HCALL := Lib.hid (records_any w2 (.slice A2 nl c2) lg k hr2 (by have := HNL.out; omega) (by omega))
        have hend : (∃ b o q, A1 = some ⟨b, o, none⟩ ∧ w2.cell? ⟨b, o + k, none⟩ = some (.int .u8 q) ∧ ¬ (q = 1) ∧ k < nm) ∨ k = nm := by
          by_cases hlt : k < nm
          · left
            obtain ⟨b, o, e, hb, hcell⟩ := HP.out (by omega)
            have hkl : k < mk.length := by omega
            refine ⟨b, o, _, e, hcell k hkl, fun e2 => hkM (hs.2 ⟨hkl, ?_⟩), hlt⟩
            have : (mk[k]).toNat = 1 := by omega
            exact UInt8.toNat_inj.1 this
          · right; omega
        clear hs hnml hkM
        have HL2 := Lib.hid (show k ≤ 1000000000 by omega)
        rcases hend with ⟨b, o, q, rfl, hck, hq1, hlt⟩ | hkn
        all_goals
          first
            | (have i1 : (k : Int) < (nm : Int) := by omega
               have i0 : (0 : Int) ≤ (k : Int) := by omega
               have i3 : decide ((k : Int) < (nm : Int)) = true := by simp [i1]
               have i4 : (q == 1) = false := by simp [hq1]
               clear hq1
               go_wp2_with fail
               clear hck i4)
            | (have i1 : ¬ (k : Int) < (nm : Int) := by omega
               have i3 : decide ((k : Int) < (nm : Int)) = false := by simp [i1]
               clear hkn
               go_wp2_with fail)
          refine HCALL.out.mono ?_
          rintro e w3 ⟨hs3, hb3⟩
          have h3 := h2.below hb3
          have hq3 := below_chain hq2 hq2.size hb3
          clear h2 HCALL hr2
          rcases hs3 with ⟨hno, rfl⟩ | ⟨rs, rv, hso, rfl, hor⟩
          · have HX := Lib.hid (And.intro h3 (And.intro (Chg.of_below hq3 F) hno))
            clear hno h3 hq3 hq2 hb3
            go_wp2_with fail
            go_ret3
            have HE4 : openN m = (52, m, []) := by rw [HE.out, ← HM.out, HX.out.2.2]
            rw [HE4]
            exact ⟨by rw [if_neg (show ¬ (52 : Int) = 0 by decide)] <;> rfl, HX.out.1, HX.out.2.1⟩
          · obtain ⟨hrl, hru⟩ := HS.out rs (by rw [← HM.out]; exact hso)
            have hor' := hor.more hq2.size
            obtain ⟨Ar, cr, rfl⟩ := hor'.form
            have HSO := Lib.hid hso
            have HRU := Lib.hid (And.intro hrl hru)
            have HQ := Lib.hid (And.intro hq3 hor')
            obtain ⟨U, hU⟩ : ∃ U, U = usedN rs := ⟨_, rfl⟩
            rw [← hU]
            have HU := Lib.hid hU
            obtain ⟨rn, hrn⟩ : ∃ rn, rn = rs.length := ⟨_, rfl⟩
            rw [← hrn]
            have HRN := Lib.hid hrn
            clear hso hrl hru hor hor' hq3 hq2 hb3 hU hrn
            have HT1 := Lib.hid (settle_any h3 sMarks mt nm k hml HL2.out HL.out)
            have HE1 : Hid (openN m = if (trimN m sMarks mt nm k).1 = 0 then
                (if (trimN (trimN m sMarks mt nm k).2 sLog lt nl U).1 = 0 then (0, (trimN (trimN m sMarks mt nm k).2 sLog lt nl U).2, rs)
                  else ((trimN (trimN m sMarks mt nm k).2 sLog lt nl U).1, (trimN (trimN m sMarks mt nm k).2 sLog lt nl U).2, []))
                else ((trimN m sMarks mt nm k).1, (trimN m sMarks mt nm k).2, [])) := Lib.hid (by rw [HE.out, ← HM.out, HSO.out, HU.out, HNM.out, HNL.out])
            have hl4 := trimN_len (s := sMarks) (t := mt) (a := nm) (b := k) HL.out
            have HL4 := Lib.hid hl4
            clear hl4
            generalize trimN m sMarks mt nm k = r1 at *
            obtain ⟨x, m1⟩ := r1
            dsimp only at HT1 HE1 HL4
            by_cases hx : x = 0
            · have HE2 : Hid (openN m = if (trimN m1 sLog lt nl U).1 = 0 then (0, (trimN m1 sLog lt nl U).2, rs)
                  else ((trimN m1 sLog lt nl U).1, (trimN m1 sLog lt nl U).2, [])) := Lib.hid (by rw [HE1.out, if_pos hx])
              clear HE1
              subst hx
              go_wp2_with fail
              refine HT1.out.mono ?_
              rintro e w4 ⟨rfl, h4, hc4⟩
              have HC4 := Lib.hid hc4
              clear hc4 h3 HT1
              go_wp2_with fail
              have HT2 := Lib.hid (settle_any h4 sLog lt nl U hll (by have h1 := HRU.out.2; have h2 := HU.out; have h3 := HNL.out; omega) HL4.out)
              generalize trimN m1 sLog lt nl U = r2 at *
              obtain ⟨y, m2⟩ := r2
              dsimp only at HT2 HE2
              refine HT2.out.mono ?_
              rintro e w5 ⟨rfl, h5, hc5⟩
              have HC5 := Lib.hid (HC4.out.trans' hc5)
              clear hc5 h4 HT2
              have HX : Hid (RefAt w5 F d m2 ∧ Chg w w5 F ∧ OutR w5 w.heap.size (.slice Ar rs.length cr) rs) := Lib.hid ⟨h5, (Chg.of_below HQ.out.1 F).trans' HC5.out, HQ.out.2.keep fun j hB hj => HC5.out.block j hj fun hF => by have := HLT.out j hF; omega⟩
              by_cases hy : y = 0
              · have HE3 : Hid (openN m = (0, m2, rs)) := Lib.hid (by rw [HE2.out, if_pos hy])
                clear HE2
                subst hy
                clear h5
                go_wp2_with fail
                go_ret3
                rw [HE3.out]
                have hal : Below w5.heap.size w5 (w5.alloc (.cells #[.pointer (some ⟨d, 0, none⟩), .int .i64 (k : Int), .bool false] 47)) := (Below.refl _ _).alloc (Nat.le_refl _) _
                obtain ⟨q1, q2, q3⟩ := HX.out
                refine ⟨?_, q1.below hal, q2.trans' (Chg.of_below hal F)⟩
                rw [if_pos rfl]
                refine ⟨_, _, rfl, q2.size, ?_, ?_⟩
                · dsimp only
                  rw [HRU.out.1, ← HM.out]
                  exact heap_alloc_new w5 _
                · rw [HRN.out]; exact q3.below hal
              · have HE3 : Hid (openN m = (y, m2, [])) := Lib.hid (by rw [HE2.out, if_neg hy])
                have j1 : (y != 0) = true := by simp [hy]
                have j2 : (y == 0) = false := by simp [hy]
                have HY := Lib.hid hy
                clear HE2 h5 hy
                go_wp2_with fail
                go_ret3
                rw [HE3.out]
                exact ⟨by rw [if_neg HY.out] <;> rfl, HX.out.1, HX.out.2.1⟩
            · have HE2 : Hid (openN m = (x, m1, [])) := Lib.hid (by rw [HE1.out, if_neg hx])
              have j1 : (x != 0) = true := by simp [hx]
              have j2 : (x == 0) = false := by simp [hx]
              have HXX := Lib.hid hx
              clear HE1 hx
              go_wp2_with fail
              refine HT1.out.mono ?_
              rintro e w4 ⟨rfl, h4, hc4⟩
              have HX := Lib.hid (And.intro h4 ((Chg.of_below HQ.out.1 F).trans' hc4))
              clear hc4 h3 HT1 h4
              go_wp2_with fail
              go_ret3
              rw [HE2.out]
              exact ⟨by rw [if_neg HXX.out] <;> rfl, HX.out⟩
end Go.Proofs.Ytbbpkenbeenocaa
namespace Go.Proofs.Ytbbpkenbeenocaa
open Go Go.RowKit
set_option linter.unusedVariables false
variable {w w' : World} {F G : Nat → Prop} {d nd cnt : Nat} {m : DM} {bad : Bool}

theorem putE_eq (r : List UInt8) (m : DM) : putE r m =
    if (appendM m sLog (entryN r)).1 = 0 then
      if (syncM (appendM m sLog (entryN r)).2 sLog).1 = 0 then
        if (appendM (syncM (appendM m sLog (entryN r)).2 sLog).2 sMarks [1]).1 = 0 then syncM (appendM (syncM (appendM m sLog (entryN r)).2 sLog).2 sMarks [1]).2 sMarks
        else appendM (syncM (appendM m sLog (entryN r)).2 sLog).2 sMarks [1]
      else syncM (appendM m sLog (entryN r)).2 sLog
    else appendM m sLog (entryN r) := by
  have e0 : ∀ m, putS r 0 m = appendM m sLog (entryN r) := fun _ => rfl
  have e1 : ∀ m, putS r 1 m = syncM m sLog := fun _ => rfl
  have e2 : ∀ m, putS r 2 m = appendM m sMarks [1] := fun _ => rfl
  have e3 : ∀ m, putS r 3 m = syncM m sMarks := fun _ => rfl
  have e4 : ∀ p : Int × DM, (if p.1 = 0 then ((0 : Int), p.2) else p) = p := fun p => by
    split
    · rename_i h; rw [← h]
    · rfl
  simp only [putE, putF, Nat.zero_add, Nat.reduceAdd, e0, e1, e2, e3, e4]
theorem RNodeIs.c0 (h : RNodeIs w nd d cnt bad) : w.cell? ⟨nd, 0, none⟩ = some (.pointer (some ⟨d, 0, none⟩)) := blk_cell h 0
theorem RNodeIs.chg (h : RNodeIs w nd d cnt bad) (hc : Chg w w' F) (hn : ¬ F nd) : RNodeIs w' nd d cnt bad := (hc.block nd (blk_lt h) hn).trans h

/-- what the document's Put answers -/
def RPutOk (w : World) (F : Nat → Prop) (nd d cnt : Nat) (r : List UInt8) (m : DM) (e : Ending) (w' : World) : Prop :=
  e = .returned (.int .i64 (putE r m).1) ∧ RefAt w' (Ext F w w') d (putE r m).2 ∧ Chg w w' (fun k => F k ∨ k = nd) ∧ RNodeIs w' nd d (if (putE r m).1 = 0 then cnt + 1 else cnt) (if (putE r m).1 = 0 then false else true)

theorem rput_fin {m2 : DM} (hF : ∀ k, F k → k < w.heap.size) (hcg : Chg w w' F) (hd : RefAt w' (Ext F w w') d m2) (hlt : nd < w.heap.size) (hFn : ¬ F nd) (i : Nat) (u : Value) :
    RefAt (w'.setCell ⟨nd, i, none⟩ u) (Ext F w (w'.setCell ⟨nd, i, none⟩ u)) d m2 ∧ Chg w (w'.setCell ⟨nd, i, none⟩ u) (fun k => F k ∨ k = nd) := by
  have hs : (w'.setCell ⟨nd, i, none⟩ u).heap.size = w'.heap.size := by simp [World.setCell]
  have h1 : RefAt (w'.setCell ⟨nd, i, none⟩ u) (Ext F w w') d m2 := hd.keep (G := fun k => k = nd) (Chg.set (F := fun k => k = nd) w' (p := ⟨nd, i, none⟩) rfl u) fun k hk e => by
    subst e
    rcases hk with h | h
    · exact hFn h
    · omega
  refine ⟨h1.mono (fun k hk => by
      rcases hk with h | h
      · exact .inl h
      · exact .inr ⟨h.1, by rw [hs]; exact h.2⟩) (fun k hk => by
      rcases hk with h | h
      · have := hF k h; have := hcg.size; omega
      · exact h.2), ?_⟩
  exact (hcg.mono fun k _ => .inl).trans' (Chg.set w' (p := ⟨nd, i, none⟩) (.inr rfl) u)

theorem rnput_sick (hn : RNodeIs w nd d cnt true) (rv : Value) :
    Calls Try.prog 15 #[.pointer (some ⟨nd, 0, none⟩), rv] w fun e w' => e = .returned (.int .i64 52) ∧ w = w' := by
  have c2 : w.cell? ⟨nd, 2, none⟩ = some (.bool true) := blk_cell hn 2
  clear hn
  go_enter Try.func15, Try.ntmps15
  go_wp2_with fail
  go_ret
  exact ⟨rfl, rfl⟩

set_option maxHeartbeats 4000000 in
theorem rnput_well (h : RefAt w F d m) (hn : RNodeIs w nd d cnt false) (hFn : ¬ F nd) (rv : Value) (r : List UInt8) (hr : Rd w w.heap.size rv r) (hrl : r.length ≤ 10000000) (hg : GoodL m.files) (ht : totM m.files ≤ 100000000) (hc : cnt ≤ 1000000000) :
    Calls Try.prog 15 #[.pointer (some ⟨nd, 0, none⟩), rv] w (RPutOk w F nd d cnt r m) := by
  obtain ⟨i0, hi, hz, hsz, hby⟩ := info_parts Try.infoByte
  have c2 : w.cell? ⟨nd, 2, none⟩ = some (.bool false) := blk_cell hn 2
  have hlt : nd < w.heap.size := blk_lt hn
  have hFlt := h.lt
  have HFL := Lib.hid hFlt
  obtain ⟨Ar, cr, rfl⟩ := hr.form
  obtain ⟨rl, hrle⟩ : ∃ rl, rl = r.length := ⟨_, rfl⟩
  rw [← hrle] at hr hrl ⊢
  have HRL := Lib.hid hrle
  have k1 : IntKind.u64.wrap (rl : Int) = (rl : Int) := by rw [IntKind.wrap_u64]; omega
  have c0 : w.drew.cell? ⟨nd, 0, none⟩ = some (.pointer (some ⟨d, 0, none⟩)) := hn.c0
  have HM := Lib.hid (show RefAt w.drew F d m from h)
  have HN := Lib.hid hn
  have hrd : Rd w.drew w.heap.size (.slice Ar rl cr) r := hr
  have HR := Lib.hid hrd
  obtain ⟨q1, q2⟩ := append_files m sLog (entryN r) hg
  have HPE := Lib.hid (putE_eq r m)
  have hml : m.files.length ≤ 1000 := by have := hg.len; omega
  have hfl : ∀ f ∈ m.files, f.data.length + (entryN r).length ≤ 140737488355328 := fun f hf => by have := totM_mem hf; rw [entryN_length]; omega
  have HFS := Lib.hid (And.intro hfl hml)
  have he8 : (entryN r).length = 8 + rl := by rw [entryN_length, hrle]
  have hlen1 : ([] ++ be rl 8).length + r.length ≤ 140737488355328 := by rw [List.nil_append, be_length]; omega
  have HLEN := Lib.hid (And.intro he8 hlen1)
  have hent : entryN r = be rl 8 ++ r := by rw [hrle]; rfl
  have HENT := Lib.hid hent
  rw [entryN_length] at q2
  have HG1 := Lib.hid (And.intro q1 q2)
  clear hr h hn hFlt hg hrle hrd q1 q2 hml hfl he8 hlen1 hent
  go_enter Try.func15, Try.ntmps15
  go_wp2_with fail
  go_region_held_law (fun W => W.cell? ⟨nd, 0, none⟩ = some (.pointer (some ⟨d, 0, none⟩)))
    (first | exact hX3.c0 | exact hX2 | exact hX1 | exact c0)
    (first
      | (go_at_call 48; (refine (refN_any (.slice none 0 0) [] rl _ (Rd.nil _ _) (by omega) (by simp)).mono ?_; rintro e w1 ⟨v1, rfl, ho1, hb1⟩; have hX1 := (hb1.cell (p := ⟨nd, 0, none⟩) hlt).trans c0; have hr1 := HR.out.below hb1))
      | (rw [if_pos (by rfl)]; (refine wp_append_rd (.tmp 17) (.tmp 18) _ rfl i0 Try.underlying40 hi hz hsz hby rfl ho1 rfl hr1 HLEN.out.2 hb1.size ?_; intro v2 w2 ho2 hg2 _; have hb2 : Below w.heap.size w.drew w2 := Own.below_grown hb1 ho1 (Nat.le_refl _) hb1.size hg2; have ho2' : Own w2 w.heap.size v2 (entryN r) := (by rw [HENT.out]; exact ho2); obtain ⟨A2, cc2, hv2⟩ := ho2'.form' HLEN.out.1; subst hv2; have hX2 := (hb2.cell (p := ⟨nd, 0, none⟩) hlt).trans c0; have h2 := HM.out.below hb2; have hrf2 : RdF w2 F (.slice A2 (8 + rl) cc2) (entryN r) := ⟨ho2'.rd, fun k _ hk hF => by have := ho2'.lt k hk; have := HFL.out k hF; omega⟩))
      | (go_at_call 47; (refine (rappend_any h2 sLog (by decide) (entryN r) _ hrf2 HFS.out.1 (by rw [HLEN.out.1]; omega) HFS.out.2).mono ?_; rintro e w3 ⟨rfl, h3, hc3⟩; have hcA : Chg w w3 F := (Chg.drew w F).trans' ((Chg.of_below (show Below w.drew.heap.size w.drew w2 from hb2) F).trans' hc3); have hX3 : RNodeIs w3 nd d cnt false := HN.out.chg hcA hFn)))
  all_goals
    have h3' : RefAt w3 (Ext F w w3) d (appendM m sLog (entryN r)).2 := RefAt.widen h3 hb2.size
    have HX := Lib.hid (And.intro h3' (And.intro hcA hX3))
    clear h3' hcA hX3 h3 hc3 h2 hb2 hrf2 ho2' hX2 ho2 hg2 hr1 hX1 ho1 hb1 c0
    generalize appendM m sLog (entryN r) = p0 at *
    obtain ⟨x0, m0⟩ := p0
    dsimp only at HX HPE HG1 ⊢
    obtain ⟨h3, hc3, hn3⟩ := HX.out
    clear HX
    by_cases hx0 : x0 = 0
    · subst hx0
      rw [if_pos rfl] at HPE
      have c3 := hn3.c0
      go_wp2_with fail
      refine (rsync_any h3 sLog).mono ?_
      rintro e w4 ⟨rfl, h4, hc4⟩
      have hn4 := hn3.chg hc4 (fun hk => by rcases hk with hk | hk; exact hFn hk; omega)
      have hcB := hc3.trans hc4
      have h4' : RefAt w4 (Ext F w w4) d (syncM m0 sLog).2 := h4.mono (fun k hk => hk.imp id fun h => ⟨h.1, Nat.lt_of_lt_of_le h.2 hc4.size⟩) (Ext.lt HFL.out hcB.size)
      obtain ⟨g1, g2⟩ := sync_files m0 sLog HG1.out.1
      have HG2 := Lib.hid (And.intro g1 g2)
      clear h3 hn3 c3 hc3 hc4 h4 g1 g2
      generalize syncM m0 sLog = p1 at *
      obtain ⟨x1, m1⟩ := p1
      dsimp only at h4' HPE HG2 ⊢
      by_cases hx1 : x1 = 0
      · subst hx1
        rw [if_pos rfl] at HPE
        have c4 := hn4.c0
        have hal : Chg w4 (w4.alloc (.cells (bcells [1]).toArray 5)) F := Chg.alloc _ _ _
        have c4a := (hn4.chg hal hFn).c0
        have h4a := h4'.al (.cells (bcells [1]).toArray 5)
        have hrl1 := RdF.lit (w := w4) h4'.lt (bcells [1]).toArray [1] 1 rfl rfl (by unfold maxLen; omega)
        have hfl1 : ∀ f ∈ m1.files, f.data.length + ([1] : List UInt8).length ≤ 140737488355328 := fun f hf => by
          have h1 := totM_mem hf; have h2 := HG2.out.2; have h3 := HG1.out.2; have h4 := HRL.out; simp; omega
        have hml1 : m1.files.length ≤ 1000 := by have := HG2.out.1.len; omega
        have HC := Lib.hid (rappend_any h4a sMarks (by decide) [1] _ hrl1 hfl1 (by simp) hml1)
        have HCA := Lib.hid (And.intro hcB (And.intro hal (And.intro hn4 h4a.lt)))
        clear hrl1 hfl1 hml1 h4a h4' hcB hal hn4
        go_wp2_with fail
        refine HC.out.mono ?_
        rintro e w5 ⟨rfl, h5, hc5⟩
        obtain ⟨z1, z2, z3, z4⟩ := HCA.out
        clear HCA HC c4 c4a
        have hcC : Chg w4 w5 (Ext F w w4) := (z2.mono fun k _ => .inl).trans' hc5
        have hcD := z1.trans hcC
        have hn5 := z3.chg hcC (fun hk => by rcases hk with hk | hk; exact hFn hk; omega)
        have h5' : RefAt w5 (Ext F w w5) d (appendM m1 sMarks [1]).2 := h5.mono (fun k hk => by
          rcases hk with (hk | hk) | hk
          · exact .inl hk
          · exact .inr ⟨hk.1, Nat.lt_of_lt_of_le hk.2 hcC.size⟩
          · exact .inr ⟨Nat.le_trans (Nat.le_trans z1.size z2.size) hk.1, hk.2⟩) (Ext.lt HFL.out hcD.size)
        obtain ⟨g1, g2⟩ := append_files m1 sMarks [1] HG2.out.1
        clear h5 hc5 z1 z2 z3 z4 hcC
        generalize appendM m1 sMarks [1] = p2 at *
        obtain ⟨x2, m2⟩ := p2
        dsimp only at h5' HPE ⊢
        by_cases hx2 : x2 = 0
        · subst hx2
          rw [if_pos rfl] at HPE
          have c5 := hn5.c0
          go_wp2_with fail
          refine (rsync_any h5' sMarks).mono ?_
          rintro e w6 ⟨rfl, h6, hc6⟩
          have hn6 := hn5.chg hc6 (fun hk => by rcases hk with hk | hk; exact hFn hk; omega)
          have hcE := hcD.trans hc6
          have h6' : RefAt w6 (Ext F w w6) d (syncM m2 sMarks).2 := h6.mono (fun k hk => hk.imp id fun h => ⟨h.1, Nat.lt_of_lt_of_le h.2 hc6.size⟩) (Ext.lt HFL.out hcE.size)
          clear h5' hn5 c5 hcD hc6 h6
          generalize syncM m2 sMarks = p3 at *
          obtain ⟨x3, m3⟩ := p3
          dsimp only at h6' HPE ⊢
          have n1 : w6.cell? ⟨nd, 1, none⟩ = some (.int .i64 (cnt : Int)) := blk_cell hn6 1
          have n2 : w6.frozen? ⟨nd, 1, none⟩ = false := blk_free hn6 1
          have n3 : w6.frozen? ⟨nd, 2, none⟩ = false := blk_free hn6 2
          have n4 : w6.cell? ⟨nd, 2, none⟩ = some (.bool false) := blk_cell hn6 2
          have HX := Lib.hid (And.intro h6' (And.intro hcE hn6))
          clear h6' hcE hn6
          by_cases hx3 : x3 = 0
          · subst hx3
            have e1 : IntKind.i64.wrap ((cnt : Int) + 1) = ((cnt + 1 : Nat) : Int) := by rw [IntKind.wrap_i64]; omega
            go_wp2_with fail
            go_ret
            obtain ⟨y1, y2, y3⟩ := HX.out
            obtain ⟨z1, z2⟩ := rput_fin HFL.out y2 y1 hlt hFn 1 (.int .i64 ((cnt + 1 : Nat) : Int))
            unfold RPutOk
            rw [HPE.out, if_pos rfl, if_pos rfl]
            exact ⟨rfl, z1, z2, by unfold RNodeIs; rw [blk_set y3]; rfl⟩
          · have j1 : (x3 != 0) = true := by simp [hx3]
            have j2 : (x3 == 0) = false := by simp [hx3]
            have HZ := Lib.hid hx3
            clear hx3
            go_wp2_with fail
            go_ret
            obtain ⟨y1, y2, y3⟩ := HX.out
            obtain ⟨z1, z2⟩ := rput_fin HFL.out y2 y1 hlt hFn 2 (.bool true)
            unfold RPutOk
            rw [HPE.out, if_neg HZ.out, if_neg HZ.out]
            exact ⟨rfl, z1, z2, by unfold RNodeIs; rw [blk_set y3]; rfl⟩
        · rw [if_neg hx2] at HPE
          have n3 : w5.frozen? ⟨nd, 2, none⟩ = false := blk_free hn5 2
          have n4 : w5.cell? ⟨nd, 2, none⟩ = some (.bool false) := blk_cell hn5 2
          have HX := Lib.hid (And.intro h5' (And.intro hcD hn5))
          have j1 : (x2 != 0) = true := by simp [hx2]
          have j2 : (x2 == 0) = false := by simp [hx2]
          have HZ := Lib.hid hx2
          clear hx2 h5' hcD hn5
          go_wp2_with fail
          go_ret
          obtain ⟨y1, y2, y3⟩ := HX.out
          obtain ⟨z1, z2⟩ := rput_fin HFL.out y2 y1 hlt hFn 2 (.bool true)
          unfold RPutOk
          rw [HPE.out, if_neg HZ.out, if_neg HZ.out]
          exact ⟨rfl, z1, z2, by unfold RNodeIs; rw [blk_set y3]; rfl⟩
      · rw [if_neg hx1] at HPE
        have n3 : w4.frozen? ⟨nd, 2, none⟩ = false := blk_free hn4 2
        have n4 : w4.cell? ⟨nd, 2, none⟩ = some (.bool false) := blk_cell hn4 2
        have HX := Lib.hid (And.intro h4' (And.intro hcB hn4))
        have j1 : (x1 != 0) = true := by simp [hx1]
        have j2 : (x1 == 0) = false := by simp [hx1]
        have HZ := Lib.hid hx1
        clear hx1 h4' hcB hn4
        go_wp2_with fail
        go_ret
        obtain ⟨y1, y2, y3⟩ := HX.out
        obtain ⟨z1, z2⟩ := rput_fin HFL.out y2 y1 hlt hFn 2 (.bool true)
        unfold RPutOk
        rw [HPE.out, if_neg HZ.out, if_neg HZ.out]
        exact ⟨rfl, z1, z2, by unfold RNodeIs; rw [blk_set y3]; rfl⟩
    · rw [if_neg hx0] at HPE
      have n3 : w3.frozen? ⟨nd, 2, none⟩ = false := blk_free hn3 2
      have n4 : w3.cell? ⟨nd, 2, none⟩ = some (.bool false) := blk_cell hn3 2
      have HX := Lib.hid (And.intro h3 (And.intro hc3 hn3))
      have j1 : (x0 != 0) = true := by simp [hx0]
      have j2 : (x0 == 0) = false := by simp [hx0]
      have HZ := Lib.hid hx0
      clear hx0 h3 hc3 hn3
      go_wp2_with fail
      go_ret
      obtain ⟨y1, y2, y3⟩ := HX.out
      obtain ⟨z1, z2⟩ := rput_fin HFL.out y2 y1 hlt hFn 2 (.bool true)
      unfold RPutOk
      rw [HPE.out, if_neg HZ.out, if_neg HZ.out]
      exact ⟨rfl, z1, z2, by unfold RNodeIs; rw [blk_set y3]; rfl⟩
end Go.Proofs.Ytbbpkenbeenocaa
