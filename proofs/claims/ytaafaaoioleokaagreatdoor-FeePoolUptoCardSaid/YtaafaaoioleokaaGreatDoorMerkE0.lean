
/- The walks of merkle: what fits, what holds. The walk of merkle's holds. The walks of merkle's Verify and Absent. Leaves of the call's own, of pairs. -/
import Derived.Test.YtaafaaoioleokaaGreatDoorMerkC0
import Derived.Test.YtaafaaoioleokaaGreatDoorBase0
import Derived.Test.YtaafaaoioleokaaGreatDoorInfo0
import Derived.Test.YtaafaaoioleokaaGreatDoorRowR0
namespace Go.Proofs.YtaafaaoioleokaaGreatDoor
set_option maxRecDepth 100000
open Go Go.RowKit
set_option linter.unusedVariables false
variable {w w' : World} {B : Nat}

/-- a way handed in -/
def PathV (w : World) (B : Nat) (v : Value) (ps : List (List UInt8)) : Prop :=
  ∃ A c, v = .slice A ps.length c ∧ ps.length ≤ c ∧ c ≤ maxLen ∧ (0 < ps.length → ∃ b o, A = some ⟨b, o, none⟩ ∧ b < B ∧ ∀ j (h : j < ps.length), ∃ x, w.cell? ⟨b, o + j, none⟩ = some x ∧ Rd w B x ps[j])
theorem PathV.below {v : Value} {ps : List (List UInt8)} (h : PathV w B v ps) (hb : Below B w w') : PathV w' B v ps := by
  obtain ⟨A, c, rfl, h1, h2, hp⟩ := h
  refine ⟨A, c, rfl, h1, h2, fun h0 => ?_⟩
  obtain ⟨b, o, rfl, hlt, hc⟩ := hp h0
  refine ⟨b, o, rfl, hlt, fun j hj => ?_⟩
  obtain ⟨x, q2, q3⟩ := hc j hj
  exact ⟨x, (hb.cell (p := ⟨b, o + j, none⟩) hlt).trans q2, q3.below hb⟩
theorem PathV.more {B' : Nat} {v : Value} {ps : List (List UInt8)} (h : PathV w B v ps) (hB : B ≤ B') : PathV w B' v ps := by
  obtain ⟨A, c, rfl, h1, h2, hp⟩ := h
  refine ⟨A, c, rfl, h1, h2, fun h0 => ?_⟩
  obtain ⟨b, o, rfl, hlt, hc⟩ := hp h0
  refine ⟨b, o, rfl, by omega, fun j hj => ?_⟩
  obtain ⟨x, q2, q3⟩ := hc j hj
  exact ⟨x, q2, q3.more hB⟩
/-- what a leaf says -/
structure Lf where
  at_ : Int
  key : ByteArray
  val : List UInt8
  path : List (List UInt8)
/-- a leaf handed in -/
def LeafV (w : World) (B : Nat) (v : Value) (l : Lf) : Prop :=
  ∃ sv pv, v = .agg #[.int .i64 l.at_, .string l.key, sv, pv] ∧ Rd w B sv l.val ∧ PathV w B pv l.path ∧ l.key.size ≤ maxLen ∧ -9223372036854775808 ≤ l.at_ ∧ l.at_ ≤ 9223372036854775807
theorem LeafV.below {v : Value} {l : Lf} (h : LeafV w B v l) (hb : Below B w w') : LeafV w' B v l := by
  obtain ⟨sv, pv, rfl, h1, h2, h3⟩ := h
  exact ⟨sv, pv, rfl, h1.below hb, h2.below hb, h3⟩
theorem LeafV.more {B' : Nat} {v : Value} {l : Lf} (h : LeafV w B v l) (hB : B ≤ B') : LeafV w B' v l := by
  obtain ⟨sv, pv, rfl, h1, h2, h3⟩ := h
  exact ⟨sv, pv, rfl, h1.more hB, h2.more hB, h3⟩
def fitsB (n : Int) (l : Lf) : Bool := decide (1 ≤ n ∧ n ≤ 65536 ∧ 0 ≤ l.at_ ∧ l.at_ < n) && (l.path.all (fun x => decide (x.length = 32)) && (keyB l.key && decide (l.val.length ≤ 65535)))
def holdsB (root : List UInt8) (n : Int) (l : Lf) : Bool := fitsB n l && (match upT nodeH (leafH l.key l.val) l.at_.toNat n.toNat l.path with | none => false | some h => decide (rootH n.toNat h = root))

theorem bits_xor_one (i : Nat) (h : i < 1000000) : bits .xor .i64 (i : Int) 1 = ((i ^^^ 1 : Nat) : Int) := by
  have h1 := xor_one i
  have h2 : i ^^^ 1 < 1000001 := by rw [h1]; split <;> omega
  have e : (BitVec.ofInt 64 (i : Int) ^^^ BitVec.ofInt 64 1).toNat = i ^^^ 1 := by
    rw [BitVec.toNat_xor, BitVec.ofInt_natCast, BitVec.toNat_ofNat, Nat.mod_eq_of_lt (by omega)]
    rfl
  show IntKind.i64.wrap ((BitVec.ofInt 64 (i : Int) ^^^ BitVec.ofInt 64 1).toNat : Int) = _
  rw [e, IntKind.wrap_i64]
  omega

set_option maxHeartbeats 2000000 in
theorem fits_any (n : Int) (v : Value) (l : Lf) (w : World) (hl : LeafV w w.heap.size v l) :
    Calls Tryz.prog 211 #[.int .i64 n, v] w fun e w' => e = .returned (.bool (fitsB n l)) ∧ Below w.heap.size w w' := by
  obtain ⟨sv, pv, rfl, hv, hp, hks, ha1, ha2⟩ := hl
  obtain ⟨i, key, val, path⟩ := l
  dsimp only at hv hp hks ha1 ha2 ⊢
  obtain ⟨Av, cv, rfl⟩ := hv.form
  have hvl : val.length ≤ 9223372036854775807 := hv.len
  obtain ⟨Ap, cp, rfl, hpc, hpm, hpp⟩ := hp
  unfold maxLen at hpm
  have HKF := Lib.hid (fun W : World => keyFits_any key W hks)
  have F1 : Hid (fitsB n ⟨i, key, val, path⟩ = (decide (1 ≤ n ∧ n ≤ 65536 ∧ 0 ≤ i ∧ i < n) && (path.all (fun x => decide (x.length = 32)) && (keyB key && decide (val.length ≤ 65535))))) := Lib.hid rfl
  generalize fitsB n ⟨i, key, val, path⟩ = R at *
  have hbx : Below w.heap.size w (w.alloc (.cells #[.int .i64 i, .string key, .slice Av val.length cv, .slice Ap path.length cp] 230)) := (Below.refl _ _).alloc (Nat.le_refl _) _
  clear hv hks
  by_cases h1 : n < 1
  · have hR : Hid (R = false) := Lib.hid (by rw [F1.out, decide_eq_false (by omega)]; rfl)
    go_enter Tryz.func211, Tryz.ntmps211
    go_wp2_with fail
    go_ret
    exact ⟨by rw [hR.out]; rfl, hbx⟩
  by_cases h2 : 65536 < n
  · have hR : Hid (R = false) := Lib.hid (by rw [F1.out, decide_eq_false (by omega)]; rfl)
    go_enter Tryz.func211, Tryz.ntmps211
    go_wp2_with fail
    go_ret
    exact ⟨by rw [hR.out]; rfl, hbx⟩
  by_cases h3 : i < 0
  · have hR : Hid (R = false) := Lib.hid (by rw [F1.out, decide_eq_false (by omega)]; rfl)
    go_enter Tryz.func211, Tryz.ntmps211
    go_wp2_with fail
    go_ret
    exact ⟨by rw [hR.out]; rfl, hbx⟩
  by_cases h4 : n ≤ i
  · have hR : Hid (R = false) := Lib.hid (by rw [F1.out, decide_eq_false (by omega)]; rfl)
    go_enter Tryz.func211, Tryz.ntmps211
    go_wp2_with fail
    go_ret
    exact ⟨by rw [hR.out]; rfl, hbx⟩
  have F2 : Hid (R = (path.all (fun x => decide (x.length = 32)) && (keyB key && decide (val.length ≤ 65535)))) := Lib.hid (by rw [F1.out, decide_eq_true ⟨by omega, by omega, by omega, by omega⟩]; rfl)
  clear F1
  obtain ⟨m, hm⟩ : ∃ m, m = path.length := ⟨_, rfl⟩
  rw [← hm] at hpc hbx ⊢
  have HM := Lib.hid hm
  have HP := Lib.hid hpp
  clear hpp hm
  obtain ⟨vl, hvl2⟩ : ∃ vl, vl = val.length := ⟨_, rfl⟩
  rw [← hvl2] at hvl hbx F2 ⊢
  clear hvl2
  go_enter Tryz.func211, Tryz.ntmps211
  go_wp2_with fail
  have HBX := Lib.hid hbx
  go_loopw [6, 27] (fun _ q wr => ∃ k : Nat, k ≤ m ∧ q = .int .i64 (k : Int) ∧ Hid (R = ((path.drop k).all (fun x => decide (x.length = 32)) && (keyB key && decide (vl ≤ 65535)))) ∧ wr = w.alloc (.cells #[.int .i64 i, .string key, .slice Av vl cv, .slice Ap m cp] 230))
    (fun _ q _ => m - (intOf q).toNat)
  case atStart => exact ⟨0, Nat.zero_le _, rfl, F2, rfl⟩
  case round =>
    obtain ⟨k, hk, rfl, HR, rfl⟩ := hrel
    by_cases hlt : k < m
    · have hkl : k < path.length := by have := HM.out; omega
      obtain ⟨b, o, rfl, hbl, hcell⟩ := HP.out (by omega)
      obtain ⟨x, q2, q3⟩ := hcell k hkl
      have a1 := (hbx.cell (p := ⟨b, o + k, none⟩) hbl).trans q2
      have i1 : (0 : Int) ≤ (k : Int) := by omega
      have i2 : (k : Int) < (m : Int) := by omega
      have hst := HR.out
      rw [List.drop_eq_getElem_cons hkl, List.all_cons, Bool.and_assoc] at hst
      generalize path[k] = p at *
      obtain ⟨Ax, cx, rfl⟩ := q3.form
      generalize p.length = pl at *
      by_cases h5 : pl = 32
      · have hres : Hid (R = ((path.drop (k + 1)).all (fun x => decide (x.length = 32)) && (keyB key && decide (vl ≤ 65535)))) := Lib.hid (by rw [hst, decide_eq_true h5]; rfl)
        have i3 : (pl : Int) = 32 := by omega
        clear hst HR hcell q2 q3
        go_wp2_with fail
        exact ⟨⟨k + 1, by omega, by go_num, hres, by first | trivial | rfl⟩, by simp [intOf]; omega⟩
      · have hres : Hid (R = false) := Lib.hid (by rw [hst, decide_eq_false h5]; rfl)
        have i3 : ¬ (pl : Int) = 32 := by omega
        clear hst HR hcell q2 q3
        go_wp2_with fail
        go_ret
        exact ⟨by rw [hres.out]; rfl, HBX.out⟩
    · obtain rfl : k = m := by omega
      have i2 : ¬ (k : Int) < (k : Int) := by omega
      have hst : R = (keyB key && decide (vl ≤ 65535)) := by rw [HR.out, HM.out, List.drop_length]; rfl
      clear HR
      go_wp2_with fail
      refine (HKF.out _).mono ?_
      rintro e w1 ⟨rfl, rfl⟩
      cases hkb : keyB key with
      | false =>
        have hres : Hid (R = false) := Lib.hid (by rw [hst, hkb]; rfl)
        clear hst hkb
        go_wp2_with fail
        go_ret
        exact ⟨by rw [hres.out]; rfl, HBX.out⟩
      | true =>
        by_cases h6 : vl ≤ 65535
        · have hres : Hid (R = true) := Lib.hid (by rw [hst, hkb, decide_eq_true h6]; rfl)
          have i3 : (vl : Int) ≤ 65535 := by omega
          clear hst hkb
          go_wp2_with fail
          go_ret
          exact ⟨by rw [hres.out]; rfl, HBX.out⟩
        · have hres : Hid (R = false) := Lib.hid (by rw [hst, hkb, decide_eq_false h6]; rfl)
          have i3 : decide ((vl : Int) ≤ 65535) = false := by simp; omega
          clear hst hkb
          go_wp2_with fail
          go_ret
          exact ⟨by rw [hres.out]; rfl, HBX.out⟩
end Go.Proofs.YtaafaaoioleokaaGreatDoor
namespace Go.Proofs.YtaafaaoioleokaaGreatDoor
set_option maxRecDepth 100000
open Go Go.RowKit
set_option linter.unusedVariables false
variable {w w' : World} {B : Nat}

theorem PathV.tail {b o c n : Nat} {x : List UInt8} {q : List (List UInt8)} (h : PathV w B (.slice (some ⟨b, o, none⟩) n c) (x :: q)) : PathV w B (.slice (some ⟨b, o + 1, none⟩) (n - 1) (c - 1)) q ∧ n = q.length + 1 ∧ 1 ≤ c ∧ c ≤ maxLen ∧ n ≤ c ∧ ∃ y, w.cell? ⟨b, o, none⟩ = some y ∧ Rd w B y x := by
  obtain ⟨A, c', e, h1, h2, hp⟩ := h
  injection e with e1 e2 e3
  subst e2; subst e3
  obtain ⟨b', o', rfl, hb, hc⟩ := hp (by simp)
  injection e1 with e1
  injection e1 with e1 e2
  subst e1; subst e2
  simp only [List.length_cons] at h1 ⊢
  refine ⟨⟨_, _, rfl, by omega, by omega, fun h0 => ⟨b, o + 1, rfl, hb, fun j hj => ?_⟩⟩, by first | trivial | rfl, by omega, h2, by omega, ?_⟩
  · obtain ⟨y, hy, hr⟩ := hc (j + 1) (by simp; omega)
    refine ⟨y, ?_, by simpa using hr⟩
    rw [← hy, Nat.add_assoc, Nat.add_comm 1 j]
  · obtain ⟨y, hy, hr⟩ := hc 0 (by simp)
    exact ⟨y, by simpa using hy, by simpa using hr⟩
theorem PathV.none_ (A : Option Addr) (c : Nat) (hc : c ≤ maxLen) : PathV w B (.slice A 0 c) [] := ⟨A, c, rfl, Nat.zero_le _, hc, fun h => absurd h (by simp)⟩
theorem PathV.form {v : Value} {q : List (List UInt8)} (h : PathV w B v q) : ∃ A c, v = .slice A q.length c := by
  obtain ⟨A, c, rfl, _⟩ := h
  exact ⟨A, c, rfl⟩

theorem fitsB_iff {n : Int} {l : Lf} (h : fitsB n l = true) : 1 ≤ n ∧ n ≤ 65536 ∧ 0 ≤ l.at_ ∧ l.at_ < n := by
  unfold fitsB at h
  simp only [Bool.and_eq_true, decide_eq_true_eq] at h
  exact h.1
def endB (root : List UInt8) (n : Nat) (o : Option (List UInt8)) : Bool := match o with | none => false | some h => decide (rootH n h = root)
theorem holdsB_no {root : List UInt8} {n : Int} {l : Lf} (h : fitsB n l = false) : holdsB root n l = false := by unfold holdsB; rw [h]; rfl
theorem holdsB_some {root : List UInt8} {n : Int} {l : Lf} (h : fitsB n l = true) : holdsB root n l = endB root n.toNat (upT nodeH (leafH l.key l.val) l.at_.toNat n.toNat l.path) := by unfold holdsB; rw [h]; rfl

set_option maxHeartbeats 4000000 in
theorem holdsM_any (rv : Value) (root : List UInt8) (n : Int) (v : Value) (l : Lf) (w : World) (hrv : Rd w w.heap.size rv root) (hl : LeafV w w.heap.size v l) (fr : TypeId × Nat × Nat) (hk : w.heap[2]? = some (.cells kVals fr.1 fr.2)) :
    Calls Tryz.prog 182 #[rv, .int .i64 n, v] w fun e w' => e = .returned (.bool (holdsB root n l)) ∧ Below w.heap.size w w' := by
  have hnk := blk_lt hk
  have HK := Lib.hid hk
  clear hk
  have HF := Lib.hid (fun (w1 : World) (hb : Below w.heap.size w w1) => fits_any n v l w1 ((hl.below hb).more hb.size))
  have H0 := Lib.hid (fun h : fitsB n l = false => holdsB_no (root := root) h)
  have H1 := Lib.hid (fun h : fitsB n l = true => holdsB_some (root := root) h)
  have H2 := Lib.hid (fun h : fitsB n l = true => fitsB_iff h)
  obtain ⟨sv, pv, rfl, hv, hp, hks, ha1, ha2⟩ := hl
  obtain ⟨i, key, val, path⟩ := l
  dsimp only at hv hp hks ha1 ha2
  obtain ⟨Av, cv, rfl⟩ := hv.form
  obtain ⟨Ap, cp, rfl⟩ := hp.form
  have HLF := Lib.hid (fun (w1 : World) (hb : Below w.heap.size w w1) => leafHash_any key _ val w1 hks ((hv.below hb).more hb.size) fr ((hb.block _ hnk).trans HK.out))
  have HP := Lib.hid hp
  have HRV := Lib.hid hrv
  obtain ⟨Ar, cr, rfl⟩ := hrv.form
  generalize holdsB root n ⟨i, key, val, path⟩ = R at *
  have hbx : Below w.heap.size w (w.alloc (.cells #[.int .i64 i, .string key, .slice Av val.length cv, .slice Ap path.length cp] 230)) := (Below.refl _ _).alloc (Nat.le_refl _) _
  have hnew := heap_alloc_new w (.cells #[.int .i64 i, .string key, .slice Av val.length cv, .slice Ap path.length cp] 230)
  clear hv hp hrv
  go_enter Tryz.func182, Tryz.ntmps182
  go_wp2_with fail
  refine (HF.out _ hbx).mono ?_
  rintro e w1 ⟨rfl, hb1⟩
  have c0 := (hb1.cell (p := ⟨w.heap.size, 0, none⟩) (by simp)).trans (blk_cell hnew 0)
  have c1 := (hb1.cell (p := ⟨w.heap.size, 1, none⟩) (by simp)).trans (blk_cell hnew 1)
  have c2 := (hb1.cell (p := ⟨w.heap.size, 2, none⟩) (by simp)).trans (blk_cell hnew 2)
  have c3 := (hb1.cell (p := ⟨w.heap.size, 3, none⟩) (by simp)).trans (blk_cell hnew 3)
  have hq1 := below_chain hbx hbx.size hb1
  have hlt1 : w.heap.size < w1.heap.size := Nat.lt_of_lt_of_le (by simp) hb1.size
  clear hbx hb1 hnew
  cases hf : fitsB n ⟨i, key, val, path⟩ with
  | false =>
    have hR : Hid (R = false) := Lib.hid (H0.out hf)
    go_wp2_with fail
    go_ret
    exact ⟨by rw [hR.out]; rfl, hq1⟩
  | true =>
    have HR : Hid (R = endB root n.toNat (upT nodeH (leafH key val) i.toNat n.toNat path)) := Lib.hid (H1.out hf)
    obtain ⟨g1, g2, g3, g4⟩ := H2.out hf
    replace g3 : 0 ≤ i := g3
    replace g4 : i < n := g4
    obtain ⟨N, hN⟩ : ∃ N : Nat, n = (N : Int) := ⟨n.toNat, by omega⟩
    obtain ⟨I, hI⟩ : ∃ I : Nat, i = (I : Int) := ⟨i.toNat, by omega⟩
    subst hN; subst hI
    rw [Int.toNat_natCast, Int.toNat_natCast] at HR
    clear hf H0 H1 H2 HF
    go_wp2_with fail
    go_region_held_law (fun W => W.cell? ⟨w.heap.size, 0, none⟩ = some (.int .i64 (I : Int)) ∧ W.cell? ⟨w.heap.size, 1, none⟩ = some (.string key) ∧ W.cell? ⟨w.heap.size, 2, none⟩ = some (.slice Av val.length cv) ∧ W.cell? ⟨w.heap.size, 3, none⟩ = some (.slice Ap path.length cp))
      (first | exact ⟨c0, c1, c2, c3⟩ | exact ⟨d0, d1, d2, d3⟩)
      ((go_at_call 169; (refine (HLF.out w1.drew hq1.drew).mono ?_; rintro e w4 ⟨v4, rfl, ho4, hb4'⟩; have hb4 : Below w1.heap.size w1 w4 := below_chain (Below.refl w1.heap.size w1).drew (Nat.le_refl _) hb4'; have d0 := (hb4.cell (p := ⟨w.heap.size, 0, none⟩) hlt1).trans c0; have d1 := (hb4.cell (p := ⟨w.heap.size, 1, none⟩) hlt1).trans c1; have d2 := (hb4.cell (p := ⟨w.heap.size, 2, none⟩) hlt1).trans c2; have d3 := (hb4.cell (p := ⟨w.heap.size, 3, none⟩) hlt1).trans c3; obtain ⟨A4, c4, rfl⟩ := ho4.form' (tagH_length _ _))))
    have hq4 := below_chain hq1 hq1.size hb4
    clear c0 c1 c2 c3 d1 d2 d3 hb4' hb4
    have HR2 := HR
    clear HR
    generalize leafH key val = h0 at *
    have hr4 := ho4.rd
    clear ho4
    go_wp2_with fail
    go_loopw [7, 8, 9, 10] (fun hv qv iv mv wr => ∃ (i m : Nat) (h : List UInt8) (q : List (List UInt8)), iv = .int .i64 (i : Int) ∧ mv = .int .i64 (m : Int) ∧ i < m ∧ m ≤ 65536 ∧ PathV w w.heap.size qv q ∧ (∃ A c, hv = .slice A 32 c) ∧ Rd wr wr.heap.size hv h ∧ Hid (R = endB root N (upT nodeH h i m q)) ∧ Below w.heap.size w wr)
      (fun _ _ _ mv _ => (intOf mv).toNat)
    case atStart => exact ⟨I, N, h0, path, rfl, rfl, by omega, by omega, HP.out, ⟨_, _, rfl⟩, hr4, HR2, hq4⟩
    case round =>
      obtain ⟨i, m, h, q, rfl, rfl, him, hm6, hpq, ⟨Ah, ch, rfl⟩, hrh, HR, hb⟩ := hrel
      by_cases hm : 1 < m
      · have i1 : (1 : Int) < (m : Int) := by omega
        have hx := bits_xor_one i (by omega)
        obtain ⟨i2, hi2⟩ : ∃ i2, i2 = i / 2 := ⟨_, rfl⟩
        obtain ⟨m2, hm2⟩ : ∃ m2, m2 = (m + 1) / 2 := ⟨_, rfl⟩
        have w1 : (i : Int).tdiv 2 = (i2 : Int) := by rw [Int.tdiv_eq_ediv_of_nonneg (by omega)]; omega
        have w2 : ((m : Int) + 1).tdiv 2 = (m2 : Int) := by rw [Int.tdiv_eq_ediv_of_nonneg (by omega)]; omega
        have w3 : m2 < m ∧ i2 < m2 ∧ 1 ≤ m2 := by omega
        by_cases hodd : m ≤ (i ^^^ 1)
        · have hst : Hid (R = endB root N (upT nodeH h i2 m2 q)) := Lib.hid (by rw [HR.out, upT_odd nodeH h i m q (by omega) hodd, ← hi2, ← hm2])
          generalize i ^^^ 1 = xi at *
          have i3 : (m : Int) ≤ (xi : Int) := by omega
          obtain ⟨Aq, cq, rfl⟩ := hpq.form
          clear hi2 hm2 HR
          go_wp2_with fail
          exact ⟨⟨i2, m2, h, q, rfl, rfl, w3.2.1, by omega, hpq, ⟨_, _, rfl⟩, hrh, hst, hb⟩, by simp [intOf]; omega⟩
        · have hxl : (i ^^^ 1) < m := by omega
          cases q with
          | nil =>
            have hres : Hid (R = false) := Lib.hid (by rw [HR.out, upT_nil nodeH h i m (by omega) hxl]; rfl)
            generalize i ^^^ 1 = xi at *
            have i3 : ¬ (m : Int) ≤ (xi : Int) := by omega
            obtain ⟨Aq, cq, rfl⟩ := hpq.form
            clear hi2 hm2 HR
            go_wp2_with fail
            go_ret
            exact ⟨by rw [hres.out]; rfl, hb⟩
          | cons x q =>
            have hst : Hid (R = endB root N (upT nodeH (if i % 2 = 0 then nodeH h x else nodeH x h) i2 m2 q)) := Lib.hid (by rw [HR.out, upT_cons nodeH h i m x q (by omega) hxl, ← hi2, ← hm2])
            generalize i ^^^ 1 = xi at *
            have i3 : ¬ (m : Int) ≤ (xi : Int) := by omega
            obtain ⟨b, o, nq, cq, rfl⟩ : ∃ b o nq cq, u8 = .slice (some ⟨b, o, none⟩) nq cq := by
              obtain ⟨A, c, rfl, h1, h2, hp⟩ := hpq
              obtain ⟨b, o, rfl, _⟩ := hp (by simp)
              exact ⟨b, o, _, c, rfl⟩
            obtain ⟨hpt, hnq, hc1, hcm, hnc, y, hy, hry⟩ := hpq.tail
            have hbl : b < w.heap.size := by
              obtain ⟨A, c, e, h1, h2, hp⟩ := hpq
              obtain ⟨b', o', rfl, hb', _⟩ := hp (by simp)
              injection e with e
              injection e with e
              injection e with e
              omega
            have hyw := (hb.cell (p := ⟨b, o, none⟩) hbl).trans hy
            have hrw := (hry.below hb).more hb.size
            obtain ⟨Ay, cy, rfl⟩ := hry.form
            have hyl : x.length ≤ 9223372036854775807 := hry.len
            unfold maxLen at hcm
            have i4 : (0 : Int) < (nq : Int) := by omega
            have i5 : ¬ (nq : Int) = 0 := by omega
            have i6 : (1 : Int) ≤ (nq : Int) := by omega
            have i7 : (1 : Int) ≤ (cq : Int) := by omega
            have i8 : (nq : Int) ≤ (cq : Int) := by omega
            have hkk := (hb.block _ hnk).trans HK.out
            have HNQ := Lib.hid hnq
            clear hnq hpq hi2 hm2 HR hry hy
            have hpn : cq = 1 → ∀ (A : Option Addr), PathV w w.heap.size (.slice A (nq - 1) (cq - 1)) q := fun e A => by
              have hq0 : q = [] := List.length_eq_zero_iff.1 (by have := HNQ.out; omega)
              subst hq0
              have : nq - 1 = 0 := by omega
              rw [this]
              exact PathV.none_ A _ (by unfold maxLen; omega)
            by_cases hev : i % 2 = 0
            · skip
              have i9 : (i : Int).tmod 2 = 0 := by rw [Int.tmod_eq_emod_of_nonneg (by omega)]; omega
              have hs2 : Hid (R = endB root N (upT nodeH (nodeH h x) i2 m2 q)) := Lib.hid (by rw [hst.out, if_pos hev])
              clear hst
              by_cases hc2 : cq = 1
              · obtain rfl : nq = 1 := by omega
                subst hc2
                clear i4 i5 i6 i7 i8
                go_wp2_with fail
                refine (nodeM_any _ _ h x _ hrh hrw fr hkk).mono ?_
                rintro e w7 ⟨v7, rfl, ho7, hb7⟩
                obtain ⟨A7, c7, rfl⟩ := ho7.form' (tagH_length _ _)
                have hq7 := below_chain hb hb.size hb7
                go_wp2_with fail
                exact ⟨⟨i2, m2, nodeH h x, q, rfl, rfl, w3.2.1, by omega, hpn (by first | trivial | rfl) _, ⟨_, _, rfl⟩, ho7.rd, hs2, hq7⟩, by simp [intOf]; omega⟩
              · have j1 : ¬ (1 : Int) = (cq : Int) := by omega
                go_wp2_with fail
                refine (nodeM_any _ _ h x _ hrh hrw fr hkk).mono ?_
                rintro e w7 ⟨v7, rfl, ho7, hb7⟩
                obtain ⟨A7, c7, rfl⟩ := ho7.form' (tagH_length _ _)
                have hq7 := below_chain hb hb.size hb7
                go_wp2_with fail
                exact ⟨⟨i2, m2, nodeH h x, q, rfl, rfl, w3.2.1, by omega, hpt, ⟨_, _, rfl⟩, ho7.rd, hs2, hq7⟩, by simp [intOf]; omega⟩
            · skip
              have i9 : ¬ (i : Int).tmod 2 = 0 := by rw [Int.tmod_eq_emod_of_nonneg (by omega)]; omega
              have hs2 : Hid (R = endB root N (upT nodeH (nodeH x h) i2 m2 q)) := Lib.hid (by rw [hst.out, if_neg hev])
              clear hst
              by_cases hc2 : cq = 1
              · obtain rfl : nq = 1 := by omega
                subst hc2
                clear i4 i5 i6 i7 i8
                go_wp2_with fail
                refine (nodeM_any _ _ x h _ hrw hrh fr hkk).mono ?_
                rintro e w7 ⟨v7, rfl, ho7, hb7⟩
                obtain ⟨A7, c7, rfl⟩ := ho7.form' (tagH_length _ _)
                have hq7 := below_chain hb hb.size hb7
                go_wp2_with fail
                exact ⟨⟨i2, m2, nodeH x h, q, rfl, rfl, w3.2.1, by omega, hpn (by first | trivial | rfl) _, ⟨_, _, rfl⟩, ho7.rd, hs2, hq7⟩, by simp [intOf]; omega⟩
              · have j1 : ¬ (1 : Int) = (cq : Int) := by omega
                go_wp2_with fail
                refine (nodeM_any _ _ x h _ hrw hrh fr hkk).mono ?_
                rintro e w7 ⟨v7, rfl, ho7, hb7⟩
                obtain ⟨A7, c7, rfl⟩ := ho7.form' (tagH_length _ _)
                have hq7 := below_chain hb hb.size hb7
                go_wp2_with fail
                exact ⟨⟨i2, m2, nodeH x h, q, rfl, rfl, w3.2.1, by omega, hpt, ⟨_, _, rfl⟩, ho7.rd, hs2, hq7⟩, by simp [intOf]; omega⟩
      · have i1 : ¬ (1 : Int) < (m : Int) := by omega
        have hst := HR.out
        rw [upT_one nodeH h i m q (by omega)] at hst
        obtain ⟨Aq, cq, rfl⟩ := hpq.form
        cases q with
        | cons x q =>
          have hres : Hid (R = false) := Lib.hid (by rw [hst]; rfl)
          generalize hql : (x :: q).length = ql at *
          have i2 : ¬ (ql : Int) = 0 := by rw [List.length_cons] at hql; omega
          clear hst HR hql hpq
          go_wp2_with fail
          go_ret
          exact ⟨by rw [hres.out]; rfl, hb⟩
        | nil =>
          have hst2 : Hid (R = decide (rootH N h = root)) := Lib.hid (by rw [hst]; rfl)
          clear hst HR hpq
          have hnn : N ≤ 9223372036854775807 := by omega
          go_wp2_with fail
          refine (number_any N _ hnn).mono ?_
          rintro e w7 ⟨v7, rfl, ho7, hb7⟩
          obtain ⟨A7, c7, rfl⟩ := ho7.form' (be_length N 8)
          have hq7 := below_chain hb hb.size hb7
          have hp8 := partsA2 w7 (.slice A7 8 c7) (.slice Ah 32 ch) (be N 8) h 37 ho7.rd (hrh.up (Nat.le_refl _) hb7)
          have hx8 := hq7.alloc hq7.size (.cells #[.slice A7 8 c7, .slice Ah 32 ch] 37)
          have hk8 := (hx8.block _ hnk).trans HK.out
          clear ho7
          go_wp2_with fail
          refine (tagged_any wRoot _ [be N 8, h] _ hp8 (by unfold maxLen wRoot; decide) (by simp) fr hk8).mono ?_
          rintro e w9 ⟨v9, rfl, ho9, hb9⟩
          have hH : rootH N h = shaSum (formB (strBytes wRoot) ++ formBs [be N 8, h]) := rfl
          have hst3 : Hid (R = decide (shaSum (formB (strBytes wRoot) ++ formBs [be N 8, h]) = root)) := Lib.hid (by rw [← hH]; exact hst2.out)
          clear hH hst2
          have hq9 := below_chain hx8 hx8.size hb9
          have hr9 := ho9.rd
          generalize shaSum (formB (strBytes wRoot) ++ formBs [be N 8, h]) = hs at *
          obtain ⟨A9, c9, rfl⟩ := ho9.form
          clear ho9
          go_wp2_with fail
          refine (equal_any _ _ hs root w9 hr9 ((HRV.out.below hq9).more hq9.size)).mono ?_
          rintro e w10 ⟨rfl, rfl⟩
          go_wp2_with fail
          go_ret
          exact ⟨by rw [hst3.out]; rfl, hq9⟩
end Go.Proofs.YtaafaaoioleokaaGreatDoor
namespace Go.Proofs.YtaafaaoioleokaaGreatDoor
set_option maxRecDepth 100000
open Go Go.RowKit
set_option linter.unusedVariables false
variable {w w' : World} {B : Nat}

/-- a leaf in a row of leaves -/
def LeafAt (w : World) (B b o : Nat) (l : Lf) : Prop :=
  ∃ sv pv, w.cell? ⟨b, o, none⟩ = some (.int .i64 l.at_) ∧ w.cell? ⟨b, o + 1, none⟩ = some (.string l.key) ∧ w.cell? ⟨b, o + 2, none⟩ = some sv ∧ w.cell? ⟨b, o + 3, none⟩ = some pv ∧ LeafV w B (.agg #[.int .i64 l.at_, .string l.key, sv, pv]) l
/-- leaves handed in -/
def LeavesV (w : World) (B : Nat) (v : Value) (ls : List Lf) : Prop :=
  ∃ A c, v = .slice A ls.length c ∧ ls.length ≤ c ∧ c ≤ maxLen ∧ (0 < ls.length → ∃ b o, A = some ⟨b, o, none⟩ ∧ b < B ∧ ∀ j (h : j < ls.length), LeafAt w B b (o + j * 4) ls[j])
theorem LeafAt.below {b o : Nat} {l : Lf} (h : LeafAt w B b o l) (hb : Below B w w') (hl : b < B) : LeafAt w' B b o l := by
  obtain ⟨sv, pv, h0, h1, h2, h3, h4⟩ := h
  exact ⟨sv, pv, (hb.cell (p := ⟨b, o, none⟩) hl).trans h0, (hb.cell (p := ⟨b, o + 1, none⟩) hl).trans h1, (hb.cell (p := ⟨b, o + 2, none⟩) hl).trans h2, (hb.cell (p := ⟨b, o + 3, none⟩) hl).trans h3, h4.below hb⟩
theorem LeafAt.more {B' b o : Nat} {l : Lf} (h : LeafAt w B b o l) (hB : B ≤ B') : LeafAt w B' b o l := by
  obtain ⟨sv, pv, h0, h1, h2, h3, h4⟩ := h
  exact ⟨sv, pv, h0, h1, h2, h3, h4.more hB⟩
theorem LeavesV.below {v : Value} {ls : List Lf} (h : LeavesV w B v ls) (hb : Below B w w') : LeavesV w' B v ls := by
  obtain ⟨A, c, rfl, h1, h2, hp⟩ := h
  refine ⟨A, c, rfl, h1, h2, fun h0 => ?_⟩
  obtain ⟨b, o, rfl, hlt, hc⟩ := hp h0
  exact ⟨b, o, rfl, hlt, fun j hj => (hc j hj).below hb hlt⟩
theorem LeavesV.more {B' : Nat} {v : Value} {ls : List Lf} (h : LeavesV w B v ls) (hB : B ≤ B') : LeavesV w B' v ls := by
  obtain ⟨A, c, rfl, h1, h2, hp⟩ := h
  refine ⟨A, c, rfl, h1, h2, fun h0 => ?_⟩
  obtain ⟨b, o, rfl, hlt, hc⟩ := hp h0
  exact ⟨b, o, rfl, by omega, fun j hj => (hc j hj).more hB⟩
structure Pf where
  n : Int
  ls : List Lf
/-- a proof handed in -/
def ProofV (w : World) (B : Nat) (v : Value) (p : Pf) : Prop :=
  ∃ lv, v = .agg #[.int .i64 p.n, lv] ∧ LeavesV w B lv p.ls ∧ -9223372036854775808 ≤ p.n ∧ p.n ≤ 9223372036854775807
theorem ProofV.below {v : Value} {p : Pf} (h : ProofV w B v p) (hb : Below B w w') : ProofV w' B v p := by
  obtain ⟨lv, rfl, h1, h2⟩ := h
  exact ⟨lv, rfl, h1.below hb, h2⟩
theorem ProofV.more {B' : Nat} {v : Value} {p : Pf} (h : ProofV w B v p) (hB : B ≤ B') : ProofV w B' v p := by
  obtain ⟨lv, rfl, h1, h2⟩ := h
  exact ⟨lv, rfl, h1.more hB, h2⟩

def verifyB (root : List UInt8) (key : ByteArray) (val : List UInt8) (p : Pf) : Bool := match p.ls with
  | [l] => (l.key.toList == key.toList) && (sameB l.val val && holdsB root p.n l)
  | _ => false
theorem verifyB_one {root : List UInt8} {key : ByteArray} {val : List UInt8} {n : Int} {l : Lf} : verifyB root key val ⟨n, [l]⟩ = ((l.key.toList == key.toList) && (sameB l.val val && holdsB root n l)) := rfl
theorem verifyB_no {root : List UInt8} {key : ByteArray} {val : List UInt8} {n : Int} {ls : List Lf} (h : ls.length ≠ 1) : verifyB root key val ⟨n, ls⟩ = false := by
  rcases ls with _ | ⟨a, _ | ⟨b, l⟩⟩
  · rfl
  · exact absurd rfl h
  · rfl

set_option maxHeartbeats 2000000 in
theorem verify_any (rv : Value) (root : List UInt8) (key : ByteArray) (vv : Value) (val : List UInt8) (v : Value) (p : Pf) (w : World) (hrv : Rd w w.heap.size rv root) (hvv : Rd w w.heap.size vv val) (hl : ProofV w w.heap.size v p) (fr : TypeId × Nat × Nat) (hk : w.heap[2]? = some (.cells kVals fr.1 fr.2)) :
    Calls Tryz.prog 137 #[rv, .string key, vv, v] w fun e w' => e = .returned (.bool (verifyB root key val p)) ∧ Below w.heap.size w w' := by
  have hnk := blk_lt hk
  have HK := Lib.hid hk
  clear hk
  obtain ⟨n, ls⟩ := p
  obtain ⟨lv, rfl, hlv, hn1, hn2⟩ := hl
  dsimp only at hlv hn1 hn2 ⊢
  have HRV := Lib.hid hrv
  have HVV := Lib.hid hvv
  obtain ⟨Ar, cr, rfl⟩ := hrv.form
  obtain ⟨Av, cv, rfl⟩ := hvv.form
  obtain ⟨Al, cl, rfl, hlc, hlm, hlp⟩ := hlv
  unfold maxLen at hlm
  have hbx : Below w.heap.size w (w.alloc (.cells #[.int .i64 n, .slice Al ls.length cl] 82)) := (Below.refl _ _).alloc (Nat.le_refl _) _
  clear hrv hvv
  by_cases h1 : ls.length = 1
  · obtain ⟨l, rfl⟩ : ∃ l, ls = [l] := by
      rcases ls with _ | ⟨a, _ | ⟨b, l⟩⟩
      · simp at h1
      · exact ⟨a, rfl⟩
      · simp at h1
    obtain ⟨b, o, rfl, hbl, hc⟩ := hlp (by simp)
    obtain ⟨sv, pv, c0, c1, c2, c3, hlf⟩ := hc 0 (by simp)
    simp only [List.getElem_cons_zero, Nat.zero_mul, Nat.add_zero] at c0 c1 c2 c3 hlf
    have HV := Lib.hid (verifyB_one (root := root) (key := key) (val := val) (n := n) (l := l))
    generalize verifyB root key val ⟨n, [l]⟩ = R at *
    obtain ⟨i, lk, lval, lpath⟩ := l
    dsimp only at c0 c1 c2 c3 HV
    have HLF := Lib.hid hlf
    obtain ⟨sv', pv', e, hsv, hpv, hks, ha1, ha2⟩ := hlf
    injection e with e
    injection e with e
    injection e with _ e
    injection e with _ e
    injection e with e1 e
    injection e with e2 e
    subst e1; subst e2
    obtain ⟨As, cs, rfl⟩ := hsv.form
    obtain ⟨Ap, cp, rfl⟩ := hpv.form
    dsimp only at hsv hpv hks ha1 ha2
    have d0 := (hbx.cell (p := ⟨b, o, none⟩) hbl).trans c0
    have d1 := (hbx.cell (p := ⟨b, o + 1, none⟩) hbl).trans c1
    have d2 := (hbx.cell (p := ⟨b, o + 2, none⟩) hbl).trans c2
    have d3 := (hbx.cell (p := ⟨b, o + 3, none⟩) hbl).trans c3
    have HSV := Lib.hid hsv
    clear hc hlp c0 c1 c2 c3 hsv hpv h1
    simp only [List.length_cons, List.length_nil, Nat.zero_add] at hlc hbx d0 d1 d2 d3 ⊢
    have i0 : (1 : Int) ≤ (cl : Int) := by omega
    cases hk1 : (lk.toList == key.toList) with
    | true =>
      have HV2 : Hid (R = (sameB lval val && holdsB root n ⟨i, lk, lval, lpath⟩)) := Lib.hid (by rw [HV.out, hk1]; rfl)
      clear HV
      have HEQ := Lib.hid (fun (w1 : World) (hb : Below w.heap.size w w1) => equal_any _ _ lval val w1 ((HSV.out.below hb).more hb.size) ((HVV.out.below hb).more hb.size))
      have HHO := Lib.hid (fun (w1 : World) (hb : Below w.heap.size w w1) => holdsM_any _ root n _ ⟨i, lk, lval, lpath⟩ w1 ((HRV.out.below hb).more hb.size) ((HLF.out.below hb).more hb.size) fr ((hb.block _ hnk).trans HK.out))
      have hby := hbx.alloc hbx.size (.cells #[.int .i64 i, .string lk, .slice As lval.length cs, .slice Ap lpath.length cp] 230)
      go_enter Tryz.func137, Tryz.ntmps137
      go_wp2_with fail
      refine (HEQ.out _ hby).mono ?_
      rintro e w1 ⟨rfl, rfl⟩
      cases hs : sameB lval val with
      | false =>
        have hres : Hid (R = false) := Lib.hid (by rw [HV2.out, hs]; rfl)
        clear hs HV2
        go_wp2_with fail
        go_ret
        exact ⟨by rw [hres.out]; rfl, hby⟩
      | true =>
        have hres : Hid (R = holdsB root n ⟨i, lk, lval, lpath⟩) := Lib.hid (by rw [HV2.out, hs]; rfl)
        clear hs HV2
        go_wp2_with fail
        refine (HHO.out _ hby).mono ?_
        rintro e w2 ⟨rfl, hb2⟩
        have hq2 := below_chain hby hby.size hb2
        go_wp2_with fail
        go_ret
        exact ⟨by rw [hres.out]; rfl, hq2⟩
    | false =>
      have hres : Hid (R = false) := Lib.hid (by rw [HV.out, hk1]; rfl)
      clear HV
      have hby := hbx.alloc hbx.size (.cells #[.int .i64 i, .string lk, .slice As lval.length cs, .slice Ap lpath.length cp] 230)
      go_enter Tryz.func137, Tryz.ntmps137
      go_wp2_with fail
      go_ret
      exact ⟨by rw [hres.out]; rfl, hby⟩
  · have hres : Hid (verifyB root key val ⟨n, ls⟩ = false) := Lib.hid (verifyB_no h1)
    generalize verifyB root key val ⟨n, ls⟩ = R at *
    clear hlp
    generalize ls.length = k at *
    have i1 : ¬ (k : Int) = 1 := by omega
    go_enter Tryz.func137, Tryz.ntmps137
    go_wp2_with fail
    go_ret
    exact ⟨by rw [hres.out]; rfl, hbx⟩
end Go.Proofs.YtaafaaoioleokaaGreatDoor
namespace Go.Proofs.YtaafaaoioleokaaGreatDoor
set_option maxRecDepth 100000
open Go Go.RowKit
set_option linter.unusedVariables false
variable {w w' : World} {B : Nat}

theorem leaves_length (ps : List Pr) : (leaves ps).length = ps.length := by unfold leaves; rw [List.length_map]
theorem Below.set4' {B : Nat} {w w' : World} {g : Nat} (h : Below B w w') (hg : B ≤ g) (x0 x1 x2 x3 : Value) : Below B w ((((w'.setCell ⟨g, 0, none⟩ x0).setCell ⟨g, 1, none⟩ x1).setCell ⟨g, 2, none⟩ x2).setCell ⟨g, 3, none⟩ x3) :=
  (((h.setCell hg x0).setCell hg x1).setCell hg x2).setCell hg x3
/-- a leaf's way made: its value, its way -/
def leafM (ps : List Pr) (i : Nat) : Lf := ⟨(i : Int), (ps.getD i (⟨#[]⟩, [])).1, (ps.getD i (⟨#[]⟩, [])).2, wayT nodeH (leaves ps) i⟩
/-- a leaf of the call's own -/
def LeafN (w : World) (B0 B : Nat) (v : Value) (l : Lf) : Prop :=
  ∃ sv pv, v = .agg #[.int .i64 l.at_, .string l.key, sv, pv] ∧ Own w B sv l.val ∧ OwnR w B0 B pv l.path
end Go.Proofs.YtaafaaoioleokaaGreatDoor
