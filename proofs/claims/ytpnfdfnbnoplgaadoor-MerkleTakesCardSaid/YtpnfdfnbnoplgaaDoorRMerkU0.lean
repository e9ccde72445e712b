
/- The document's merkle: up a way. The document's merkle: a leaf that holds. The walk of the document's Verify. -/
import Derived.Test.YtpnfdfnbnoplgaaDoorRMerkF
namespace Go.Proofs.YtpnfdfnbnoplgaaDoor
open Go Go.RowKit
set_option linter.unusedVariables false
variable {w w' : World} {B : Nat}

theorem PathV.last {A : Option Addr} {n c : Nat} {q : List (List UInt8)} {b : List UInt8} (h : PathV w B (.slice A n c) (q ++ [b])) : n = q.length + 1 ∧ n ≤ c ∧ c ≤ maxLen ∧ PathV w B (.slice A q.length c) q ∧ ∃ bl o y, A = some ⟨bl, o, none⟩ ∧ bl < B ∧ w.cell? ⟨bl, o + q.length, none⟩ = some y ∧ Rd w B y b := by
  obtain ⟨A', c', e, h1, h2, hp⟩ := h
  injection e with e1 e2 e3
  subst e1; subst e3
  rw [List.length_append, List.length_singleton] at e2 h1
  obtain ⟨bl, o, rfl, hb, hc⟩ := hp (by simp)
  refine ⟨e2, by omega, h2, ⟨_, _, rfl, by omega, h2, fun h0 => ⟨bl, o, rfl, hb, fun j hj => ?_⟩⟩, bl, o, ?_⟩
  · obtain ⟨y, hy, hr⟩ := hc j (by rw [List.length_append]; omega)
    exact ⟨y, hy, by rwa [List.getElem_append_left hj] at hr⟩
  · obtain ⟨y, hy, hr⟩ := hc q.length (by simp)
    exact ⟨y, rfl, hb, hy, by simpa using hr⟩
/-- what going up answers -/
def UpPost (w : World) (o : Option (List UInt8)) (e : Ending) (w' : World) : Prop := ∃ v', e = .returned (.tuple #[v', .bool o.isSome]) ∧ (∀ z, o = some z → Rd w' w'.heap.size v' z) ∧ Below w.heap.size w w'
theorem upD_one (f : Nat) (h : List UInt8) (i : Nat) (p : List (List UInt8)) : upD (f + 1) h i 1 p = if p = [] then some h else none := by unfold upD; rw [if_pos rfl]
theorem upD_nil (f : Nat) (h : List UInt8) (i m : Nat) (hm : m ≠ 1) : upD (f + 1) h i m [] = none := by unfold upD; rw [if_neg hm]; rfl
theorem upD_snoc (f : Nat) (h : List UInt8) (i m : Nat) (hm : m ≠ 1) (q : List (List UInt8)) (b : List UInt8) : upD (f + 1) h i m (q ++ [b]) = if b.length = 32 then (if i < cutM m then (upD f h i (cutM m) q).map (nodeH · b) else (upD f h (i - cutM m) (m - cutM m) q).map (nodeH b ·)) else none := by
  conv => lhs; unfold upD
  rw [if_neg hm]
  simp

set_option maxHeartbeats 4000000 in
theorem rup_any (fr : TypeId × Nat × Nat) : ∀ (f m : Nat) (h : List UInt8) (i : Nat) (p : List (List UInt8)) (hv pv : Value) (w : World), m ≤ f → 1 ≤ m → m ≤ 65536 → i < m → Rd w w.heap.size hv h → PathV w w.heap.size pv p → w.heap[1]? = some (.cells kVals fr.1 fr.2) →
    Calls Tryd.prog 54 #[hv, .int .i64 (i : Int), .int .i64 (m : Int), pv] w (UpPost w (upD f h i m p)) := by
  obtain ⟨j0, hj, -, -, -⟩ := info_parts Tryd.infoRow
  intro f
  induction f with
  | zero => intro m h i p hv pv w h0 h1; omega
  | succ f ih =>
    intro m h i p hv pv w hmf h1 h6 him hhv hpv hk
    have hnk := blk_lt hk
    have HK := Lib.hid hk
    clear hk
    by_cases hone : m = 1
    · subst hone
      have hres0 := upD_one f h i p
      have hrd := hhv
      obtain ⟨A, c, rfl⟩ := hhv.form
      obtain ⟨Ap, cp, rfl⟩ := hpv.form
      cases p with
      | nil =>
        rw [if_pos rfl] at hres0
        have hres := Lib.hid hres0
        generalize upD (f + 1) h i 1 [] = R at *
        clear ih hres0
        go_enter Tryd.func54, Tryd.ntmps54
        go_wp2_with fail
        go_ret2
        refine ⟨.slice A h.length c, ?_, fun z hz => ?_, Below.refl _ _⟩
        · rw [hres.out]; rfl
        · rw [hres.out] at hz; injection hz with hz; subst hz; exact hrd
      | cons x q =>
        rw [if_neg (by simp)] at hres0
        have hres := Lib.hid hres0
        generalize upD (f + 1) h i 1 (x :: q) = R at *
        clear hres0
        have hl : ¬ (((x :: q).length : Nat) : Int) = 0 := by rw [List.length_cons]; omega
        generalize hgl : (x :: q).length = l at *
        have hl2 : ((l : Int) == 0) = false := by simpa using hl
        clear ih hgl
        go_enter Tryd.func54, Tryd.ntmps54
        go_wp2_with fail
        go_ret2
        refine ⟨.slice A h.length c, ?_, fun z hz => ?_, Below.refl _ _⟩
        · rw [hres.out]; first | rfl | (simp [hl2]) | (simp; omega)
        · rw [hres.out] at hz; cases hz
    · have i0 : ¬ (m : Int) = 1 := by omega
      rcases List.eq_nil_or_concat p with rfl | ⟨q, b, rfl⟩
      · have hres := Lib.hid (upD_nil f h i m hone)
        generalize upD (f + 1) h i m [] = R at *
        obtain ⟨A, c, rfl⟩ := hhv.form
        obtain ⟨Ap, cp, rfl⟩ := hpv.form
        clear ih
        go_enter Tryd.func54, Tryd.ntmps54
        go_wp2_with fail
        go_ret2
        refine ⟨.slice none 0 0, by rw [hres.out]; rfl, fun z hz => ?_, Below.refl _ _⟩
        rw [hres.out] at hz; cases hz
      · have hres := upD_snoc f h i m hone q b
        rw [List.concat_eq_append] at hpv ⊢
        obtain ⟨c1, c2, c3⟩ := cutM_lt (m := m) (by omega)
        have CS := Lib.hid (fun W : World => split_any m W (by omega) h6)
        obtain ⟨Ap, cp, hpe⟩ := hpv.form
        subst hpe
        obtain ⟨hn, hnc, hcm, hpq, bl, o, y, rfl, hbl, hcy, hry⟩ := hpv.last
        unfold maxLen at hcm
        rw [hn] at hnc ⊢
        have C1 := Lib.hid (fun (hik : i < cutM m) (w1 : World) (hb : Below w.heap.size w w1) => ih (cutM m) h i q hv _ w1 (by omega) c3 (by omega) hik ((hhv.below hb).more hb.size) ((hpq.below hb).more hb.size) ((hb.block _ hnk).trans HK.out))
        have C2 := Lib.hid (fun (hik : ¬ i < cutM m) (w1 : World) (hb : Below w.heap.size w w1) => ih (m - cutM m) h (i - cutM m) q hv _ w1 (by omega) (by omega) (by omega) (by omega) ((hhv.below hb).more hb.size) ((hpq.below hb).more hb.size) ((hb.block _ hnk).trans HK.out))
        have HRES := Lib.hid hres
        have HRY := Lib.hid hry
        obtain ⟨Ah, ch, rfl⟩ := hhv.form
        obtain ⟨Ay, cy, rfl⟩ := hry.form
        clear ih hres hpv hpq hn hhv hry
        obtain ⟨ql, hql⟩ : ∃ ql, ql = q.length := ⟨_, rfl⟩
        rw [← hql] at C1 C2 hcy hnc ⊢
        have sl : ∀ W : World, (Instr.slice 44 (.slice (some ⟨bl, o, none⟩) (ql + 1) cp) none (some (.int .i64 (ql : Int))) none).run Tryd.prog W = .ok (.slice (some ⟨bl, o, none⟩) ql cp) W := slc_to _ _ j0 Tryd.underlying44 hj _ _ _ _ (by omega)
        obtain ⟨n1, hn1⟩ : ∃ n1, n1 = ql + 1 := ⟨_, rfl⟩
        rw [← hn1] at sl hnc ⊢
        have k1 : IntKind.i64.wrap ((n1 : Int) - 1) = (ql : Int) := by rw [IntKind.wrap_i64]; omega
        have k2 : ¬ (n1 : Int) = 0 := by omega
        have k3 : (ql : Int) < (n1 : Int) := by omega
        have k4 : (0 : Int) ≤ (ql : Int) := by omega
        clear hql hn1 hj
        generalize upD (f + 1) h i m (q ++ [b]) = R at *
        by_cases hb32 : b.length = 32
        · rw [hb32] at hcy
          have HR := Lib.hid (show R = (if i < cutM m then (upD f h i (cutM m) q).map (nodeH · b) else (upD f h (i - cutM m) (m - cutM m) q).map (nodeH b ·)) by rw [HRES.out, if_pos hb32])
          clear HRES
          by_cases hik : i < cutM m
          · skip
            have hR : R = (upD f h i (cutM m) q).map (nodeH · b) := by rw [HR.out, if_pos hik]
            have D := C1.out hik w (Below.refl _ _)
            generalize upD f h i (cutM m) q = O at *
            have D' := Lib.hid D
            have HR2 := Lib.hid hR
            have HCS := CS
            clear D hR C1 C2 HR CS c1 c2 
            generalize cutM m = k at *
            have i5 : (i : Int) < (k : Int) := by omega
            have hry2 : Rd w w.heap.size (.slice Ay 32 cy) b := by have := HRY.out; rwa [hb32] at this
            go_enter Tryd.func54, Tryd.ntmps54
            go_wp2_with fail
            refine (HCS.out _).mono ?_
            rintro e w1 ⟨rfl, rfl⟩
            go_wp2_with fail
            refine (D'.out).mono ?_
            rintro e w2 ⟨v2, rfl, hz, hb2⟩
            cases O with
            | none =>
              have hR : R = none := by rw [HR2.out]; rfl
              subst hR
              clear hz
              simp only [Option.isSome_none]
              go_wp2_with fail
              go_ret2
              refine ⟨.slice none 0 0, rfl, fun z hz => ?_, hb2⟩
              cases hz
            | some z =>
              have hR : R = some (nodeH z b) := by rw [HR2.out]; rfl
              subst hR
              have hrz := hz z rfl
              clear hz
              obtain ⟨A2, c2, rfl⟩ := hrz.form
              have hp3 := partsA2 w2 (.slice A2 z.length c2) (.slice Ay 32 cy) z b 23 hrz (hry2.up (Nat.le_refl _) hb2)
              have hx3 := hb2.alloc hb2.size (.cells #[.slice A2 z.length c2, .slice Ay 32 cy] 23)
              have hk3 := (hx3.block _ hnk).trans HK.out
              clear hrz
              simp only [Option.isSome_some]
              go_wp2_with fail
              refine (rtagged_any wNode _ [z, b] _ hp3 (by unfold maxLen wNode; decide) (by simp) fr hk3).mono ?_
              rintro e w4 ⟨v4, rfl, ho4, hb4⟩
              have hbo := below_chain hx3 hx3.size hb4
              go_wp2_with fail
              go_ret2
              refine ⟨v4, rfl, fun z' hz' => ?_, hbo⟩
              injection hz' with hz'
              subst hz'
              exact ho4.rd
          · skip
            have hR : R = (upD f h (i - cutM m) (m - cutM m) q).map (nodeH b ·) := by rw [HR.out, if_neg hik]
            have D := C2.out hik w (Below.refl _ _)
            generalize upD f h (i - cutM m) (m - cutM m) q = O at *
            obtain ⟨d, hd⟩ : ∃ d, d = i - cutM m := ⟨_, rfl⟩
            obtain ⟨m2, hm2⟩ : ∃ m2, m2 = m - cutM m := ⟨_, rfl⟩
            rw [← hd, ← hm2] at D
            have D' := Lib.hid D
            have HR2 := Lib.hid hR
            have j1 : IntKind.i64.wrap ((i : Int) - (cutM m : Int)) = (d : Int) := by rw [IntKind.wrap_i64]; omega
            have j2 : IntKind.i64.wrap ((m : Int) - (cutM m : Int)) = (m2 : Int) := by rw [IntKind.wrap_i64]; omega
            have HCS := CS
            clear D hR C1 C2 HR CS c1 c2 hd hm2
            generalize cutM m = k at *
            have i5 : ¬ (i : Int) < (k : Int) := by omega
            have hry2 : Rd w w.heap.size (.slice Ay 32 cy) b := by have := HRY.out; rwa [hb32] at this
            go_enter Tryd.func54, Tryd.ntmps54
            go_wp2_with fail
            refine (HCS.out _).mono ?_
            rintro e w1 ⟨rfl, rfl⟩
            go_wp2_with fail
            refine (D'.out).mono ?_
            rintro e w2 ⟨v2, rfl, hz, hb2⟩
            cases O with
            | none =>
              have hR : R = none := by rw [HR2.out]; rfl
              subst hR
              clear hz
              simp only [Option.isSome_none]
              go_wp2_with fail
              go_ret2
              refine ⟨.slice none 0 0, rfl, fun z hz => ?_, hb2⟩
              cases hz
            | some z =>
              have hR : R = some (nodeH b z) := by rw [HR2.out]; rfl
              subst hR
              have hrz := hz z rfl
              clear hz
              obtain ⟨A2, c2, rfl⟩ := hrz.form
              have hp3 := partsA2 w2 (.slice Ay 32 cy) (.slice A2 z.length c2) b z 23 (hry2.up (Nat.le_refl _) hb2) hrz
              have hx3 := hb2.alloc hb2.size (.cells #[.slice Ay 32 cy, .slice A2 z.length c2] 23)
              have hk3 := (hx3.block _ hnk).trans HK.out
              clear hrz
              simp only [Option.isSome_some]
              go_wp2_with fail
              refine (rtagged_any wNode _ [b, z] _ hp3 (by unfold maxLen wNode; decide) (by simp) fr hk3).mono ?_
              rintro e w4 ⟨v4, rfl, ho4, hb4⟩
              have hbo := below_chain hx3 hx3.size hb4
              go_wp2_with fail
              go_ret2
              refine ⟨v4, rfl, fun z' hz' => ?_, hbo⟩
              injection hz' with hz'
              subst hz'
              exact ho4.rd
        · have hR : R = none := by rw [HRES.out, if_neg hb32]
          have k5 : ¬ (b.length : Int) = 32 := by omega
          subst hR
          have k6 : ((b.length : Int) != 32) = true := by simpa using k5
          have k7 : ((n1 : Int) == 0) = false := by simpa using k2
          generalize b.length = bln at *
          go_enter Tryd.func54, Tryd.ntmps54
          go_wp2_with fail
          go_ret2
          refine ⟨.slice none 0 0, rfl, fun z hz => ?_, Below.refl _ _⟩
          cases hz
end Go.Proofs.YtpnfdfnbnoplgaaDoor
namespace Go.Proofs.YtpnfdfnbnoplgaaDoor
open Go Go.RowKit
set_option linter.unusedVariables false
variable {w w' : World} {B : Nat}

theorem holdsB_doc (root : List UInt8) (n : Int) (l : Lf) : holdsB root n l = ((decide (1 ≤ n ∧ n ≤ 65536 ∧ 0 ≤ l.at_ ∧ l.at_ < n) && (keyB l.key && decide (l.val.length ≤ 65535))) && endB root n.toNat (upD n.toNat (leafH l.key l.val) l.at_.toNat n.toNat l.path)) := by
  by_cases hr : 1 ≤ n ∧ n ≤ 65536 ∧ 0 ≤ l.at_ ∧ l.at_ < n
  · by_cases h32 : ∀ x ∈ l.path, x.length = 32
    · have hp : (l.path.all fun x => decide (x.length = 32)) = true := List.all_eq_true.2 fun x hx => decide_eq_true (h32 x hx)
      have hf : fitsB n l = (keyB l.key && decide (l.val.length ≤ 65535)) := by unfold fitsB; rw [decide_eq_true hr, hp]; rfl
      rw [upD_eq n.toNat n.toNat _ _ _ (Nat.le_refl _) (by omega) (by omega) h32, decide_eq_true hr]
      cases h : (keyB l.key && decide (l.val.length ≤ 65535)) with
      | false => rw [holdsB_no (by rw [hf, h])]; rfl
      | true => rw [holdsB_some (by rw [hf, h])]; rfl
    · have hp : (l.path.all fun x => decide (x.length = 32)) = false := by
        rw [Bool.eq_false_iff]
        intro h
        exact h32 fun x hx => of_decide_eq_true (List.all_eq_true.1 h x hx)
      have hf : fitsB n l = false := by unfold fitsB; rw [hp]; simp
      rw [holdsB_no hf]
      cases ho : upD n.toNat (leafH l.key l.val) l.at_.toNat n.toNat l.path with
      | none => simp [endB]
      | some z => exact absurd (upD_32 _ _ _ _ _ _ ho) h32
  · have hf : fitsB n l = false := by unfold fitsB; rw [decide_eq_false hr]; rfl
    rw [holdsB_no hf, decide_eq_false hr]
    rfl

set_option maxHeartbeats 4000000 in
theorem rholds_any (rv : Value) (root : List UInt8) (n : Int) (v : Value) (l : Lf) (w : World) (hrv : Rd w w.heap.size rv root) (hl : LeafV w w.heap.size v l) (fr : TypeId × Nat × Nat) (hk : w.heap[1]? = some (.cells kVals fr.1 fr.2)) :
    Calls Tryd.prog 37 #[rv, .int .i64 n, v] w fun e w' => e = .returned (.bool (holdsB root n l)) ∧ Below w.heap.size w w' := by
  have hnk := blk_lt hk
  have HK := Lib.hid hk
  clear hk
  obtain ⟨sv, pv, rfl, hv, hp, hks, ha1, ha2⟩ := hl
  obtain ⟨i, key, val, path⟩ := l
  dsimp only at hv hp hks ha1 ha2 ⊢
  obtain ⟨Av, cv, rfl⟩ := hv.form
  have hvl : val.length ≤ 9223372036854775807 := hv.len
  obtain ⟨Ap, cp, rfl⟩ := hp.form
  have hdoc := holdsB_doc root n ⟨i, key, val, path⟩
  dsimp only at hdoc
  generalize holdsB root n ⟨i, key, val, path⟩ = R at *
  obtain ⟨Ar, cr, rfl⟩ := hrv.form
  have HKF := Lib.hid (fun W : World => rkey_any key W hks)
  have hbx : Below w.heap.size w (w.alloc (.cells #[.int .i64 i, .string key, .slice Av val.length cv, .slice Ap path.length cp] 46)) := (Below.refl _ _).alloc (Nat.le_refl _) _
  have hgx := heap_alloc_new w (.cells #[.int .i64 i, .string key, .slice Av val.length cv, .slice Ap path.length cp] 46)
  have HV := Lib.hid hv
  have HP := Lib.hid hp
  have HR := Lib.hid hrv
  have hkb0 : ∀ b, keyB key = b → True := fun _ _ => trivial
  clear hv hp hrv hkb0
  have HD := Lib.hid hdoc
  clear hdoc
  by_cases h1 : n < 1
  · have hR : Hid (R = false) := Lib.hid (by rw [HD.out, decide_eq_false (by omega)]; rfl)
    clear HD hgx
    generalize val.length = vl at *
    generalize path.length = pl at *
    go_enter Tryd.func37, Tryd.ntmps37
    go_wp2_with fail
    go_ret
    exact ⟨by rw [hR.out]; rfl, hbx⟩
  by_cases h2 : 65536 < n
  · have hR : Hid (R = false) := Lib.hid (by rw [HD.out, decide_eq_false (by omega)]; rfl)
    clear HD hgx
    generalize val.length = vl at *
    generalize path.length = pl at *
    go_enter Tryd.func37, Tryd.ntmps37
    go_wp2_with fail
    go_ret
    exact ⟨by rw [hR.out]; rfl, hbx⟩
  by_cases h3 : i < 0
  · have hR : Hid (R = false) := Lib.hid (by rw [HD.out, decide_eq_false (by omega)]; rfl)
    clear HD hgx
    generalize val.length = vl at *
    generalize path.length = pl at *
    go_enter Tryd.func37, Tryd.ntmps37
    go_wp2_with fail
    go_ret
    exact ⟨by rw [hR.out]; rfl, hbx⟩
  by_cases h4 : n ≤ i
  · have hR : Hid (R = false) := Lib.hid (by rw [HD.out, decide_eq_false (by omega)]; rfl)
    clear HD hgx
    generalize val.length = vl at *
    generalize path.length = pl at *
    go_enter Tryd.func37, Tryd.ntmps37
    go_wp2_with fail
    go_ret
    exact ⟨by rw [hR.out]; rfl, hbx⟩
  have hrange : 1 ≤ n ∧ n ≤ 65536 ∧ 0 ≤ i ∧ i < n := ⟨by omega, by omega, by omega, by omega⟩
  cases hkb : keyB key with
  | false =>
    have hR : Hid (R = false) := Lib.hid (by rw [HD.out, hkb]; simp)
    clear HD hgx hrange
    generalize val.length = vl at *
    generalize path.length = pl at *
    go_enter Tryd.func37, Tryd.ntmps37
    go_wp2_with fail
    refine (HKF.out _).mono ?_
    rintro e w1 ⟨rfl, rfl⟩
    rw [hkb]
    clear hkb
    go_wp2_with fail
    go_ret
    exact ⟨by rw [hR.out]; rfl, hbx⟩
  | true =>
    by_cases h6 : 65535 < val.length
    · have hR : Hid (R = false) := Lib.hid (by rw [HD.out, decide_eq_false (show ¬ val.length ≤ 65535 by omega)]; simp)
      have j6 : (65535 : Int) < (val.length : Int) := by omega
      clear HD hgx hrange
      generalize val.length = vl at *
      generalize path.length = pl at *
      go_enter Tryd.func37, Tryd.ntmps37
      go_wp2_with fail
      refine (HKF.out _).mono ?_
      rintro e w1 ⟨rfl, rfl⟩
      rw [hkb]
      clear hkb
      go_wp2_with fail
      go_ret
      exact ⟨by rw [hR.out]; rfl, hbx⟩
    · have hR0 : R = endB root n.toNat (upD n.toNat (leafH key val) i.toNat n.toNat path) := by
        rw [HD.out, hkb, decide_eq_true hrange, decide_eq_true (show val.length ≤ 65535 by omega)]; rfl
      obtain ⟨N, hN⟩ : ∃ N : Nat, n = (N : Int) := ⟨n.toNat, by omega⟩
      obtain ⟨I, hI⟩ : ∃ I : Nat, i = (I : Int) := ⟨i.toNat, by omega⟩
      subst hN; subst hI
      rw [Int.toNat_natCast, Int.toNat_natCast] at hR0
      have j6 : ¬ (65535 : Int) < (val.length : Int) := by omega
      have CL := Lib.hid (fun (W : World) (hb : Below w.heap.size w W) => rleaf_any key _ val W hks ((HV.out.below hb).more hb.size) fr ((hb.block _ hnk).trans HK.out))
      have CU := Lib.hid (fun (W : World) (hb : Below w.heap.size w W) (hv : Value) (hh : Rd W W.heap.size hv (leafH key val)) => rup_any fr N N (leafH key val) I path hv _ W (Nat.le_refl _) (by omega) (by omega) (by omega) hh ((HP.out.below hb).more hb.size) ((hb.block _ hnk).trans HK.out))
      generalize upD N (leafH key val) I N path = O at *
      have h32 : (leafH key val).length = 32 := tagH_length _ _
      generalize leafH key val = L at *
      have H32 := Lib.hid h32
      have HR0 := Lib.hid hR0
      have hln : (N : Nat) ≤ 9223372036854775807 := by omega
      clear HD hrange h32 hR0 HV HP
      generalize val.length = vl at *
      generalize path.length = pl at *
      go_enter Tryd.func37, Tryd.ntmps37
      go_wp2_with fail
      refine (HKF.out _).mono ?_
      rintro e w1 ⟨rfl, rfl⟩
      rw [hkb]
      clear hkb
      go_wp2_with fail
      generalize w.alloc (.cells #[.int .i64 (I : Int), .string key, .slice Av vl cv, .slice Ap pl cp] 46) = W0 at *
      have hgl := blk_lt hgx
      have HS : Hid (∀ W : World, Below W0.heap.size W0 W → W.cell? ⟨w.heap.size, 0, none⟩ = some (.int .i64 (I : Int)) ∧ W.cell? ⟨w.heap.size, 1, none⟩ = some (.string key) ∧ W.cell? ⟨w.heap.size, 2, none⟩ = some (.slice Av vl cv) ∧ W.cell? ⟨w.heap.size, 3, none⟩ = some (.slice Ap pl cp)) := Lib.hid fun W hb =>
        ⟨(hb.cell (p := ⟨w.heap.size, 0, none⟩) hgl).trans (blk_cell hgx 0), (hb.cell (p := ⟨w.heap.size, 1, none⟩) hgl).trans (blk_cell hgx 1), (hb.cell (p := ⟨w.heap.size, 2, none⟩) hgl).trans (blk_cell hgx 2), (hb.cell (p := ⟨w.heap.size, 3, none⟩) hgl).trans (blk_cell hgx 3)⟩
      have hbd : Below W0.heap.size W0 W0.drew := (Below.refl _ _).drew
      have hbwd : Below w.heap.size w W0.drew := hbx.drew
      have DL := Lib.hid (CL.out W0.drew hbwd)
      clear hgx
      go_region_held_law (fun W => W.cell? ⟨w.heap.size, 0, none⟩ = some (.int .i64 (I : Int)) ∧ W.cell? ⟨w.heap.size, 1, none⟩ = some (.string key) ∧ W.cell? ⟨w.heap.size, 2, none⟩ = some (.slice Av vl cv) ∧ W.cell? ⟨w.heap.size, 3, none⟩ = some (.slice Ap pl cp))
        (with_reducible first | exact HS.out _ hbd | exact HS.out _ hb05 | exact HS.out _ hb04)
        (first
          | (go_at_call 54; have D := CU.out _ hq4 _ ho4.rd; ((with_reducible refine D.mono ?_); rintro e w5 ⟨v5, rfl, hz, hb5⟩; have hb05 := below_chain hb04 hb04.size hb5; have hq5 := below_chain hq4 hq4.size hb5))
          | (go_at_call 47; ((with_reducible refine DL.out.mono ?_); rintro e w4 ⟨v4, rfl, ho4, hb4⟩; have hb04 := below_chain hbd (Nat.le_refl _) hb4; have hq4 := below_chain hbwd hbx.size hb4; obtain ⟨A4, c4, rfl⟩ := ho4.form' H32.out)))
      cases O with
      | none =>
        have hR : Hid (R = false) := Lib.hid (by rw [HR0.out]; rfl)
        clear hz
        simp only [Option.isSome_none]
        go_wp2_with fail
        go_ret
        exact ⟨by rw [hR.out]; rfl, hq5⟩
      | some z =>
        have hR : Hid (R = decide (rootH N z = root)) := Lib.hid (by rw [HR0.out]; rfl)
        have hrz := hz z rfl
        clear hz
        simp only [Option.isSome_some]
        obtain ⟨A5, c5, rfl⟩ := hrz.form
        go_wp2_with fail
        refine (rn_any N w5 hln).mono ?_
        rintro e w6 ⟨v6, rfl, ho6, hb6⟩
        obtain ⟨A6, c6, rfl⟩ := ho6.form' (be_length N 8)
        have hq6 := below_chain hq5 hq5.size hb6
        have hp7 := partsA2 w6 (.slice A6 8 c6) (.slice A5 z.length c5) (be N 8) z 23 ho6.rd (hrz.up (Nat.le_refl _) hb6)
        have hx7 := hq6.alloc hq6.size (.cells #[.slice A6 8 c6, .slice A5 z.length c5] 23)
        have hk7 := (hx7.block _ hnk).trans HK.out
        clear ho6
        go_wp2_with fail
        refine (rtagged_any wRoot _ [be N 8, z] _ hp7 (by unfold maxLen wRoot; decide) (by simp) fr hk7).mono ?_
        rintro e w8 ⟨v8, rfl, ho8, hb8⟩
        have hq8 := below_chain hx7 hx7.size hb8
        have hH : rootH N z = shaSum (formB (strBytes wRoot) ++ formBs [be N 8, z]) := rfl
        have hR3 : Hid (R = decide (shaSum (formB (strBytes wRoot) ++ formBs [be N 8, z]) = root)) := Lib.hid (by rw [← hH]; exact hR.out)
        have hr8 := ho8.rd
        clear hH hR
        generalize shaSum (formB (strBytes wRoot) ++ formBs [be N 8, z]) = hs at *
        obtain ⟨A8, c8, rfl⟩ := ho8.form
        clear ho8
        go_wp2_with fail
        refine (rsame_any _ _ hs root w8 hr8 ((HR.out.below hq8).more hq8.size)).mono ?_
        rintro e w9 ⟨rfl, rfl⟩
        go_wp2_with fail
        go_ret
        exact ⟨by rw [hR3.out]; rfl, hq8⟩
end Go.Proofs.YtpnfdfnbnoplgaaDoor
namespace Go.Proofs.YtpnfdfnbnoplgaaDoor
open Go Go.RowKit
set_option linter.unusedVariables false
variable {w w' : World} {B : Nat}

theorem rsame_qb (v1 v2 : Value) (l m : List UInt8) (b : Bool) (hb : sameB l m = b) (W : World) (n : Nat) (h1 : Rd W W.heap.size v1 l) (h2 : Rd W W.heap.size v2 m) : Calls Tryd.prog 34 #[v1, v2] (W.drewN n) fun e w'' => e = .returned (.bool b) ∧ ∃ m, w'' = W.drewN m :=
  Calls.quiet_of_same ((rsame_any v1 v2 l m (W.drewN n) (h1.drewN n) (h2.drewN n)).mono fun _ _ ⟨he, hw⟩ => ⟨by rw [he, hb], hw.symm⟩)

set_option maxHeartbeats 4000000 in
theorem rverify_any (rv : Value) (root : List UInt8) (key : ByteArray) (vv : Value) (val : List UInt8) (v : Value) (p : Pf) (w : World) (hrv : Rd w w.heap.size rv root) (hvv : Rd w w.heap.size vv val) (hl : ProofV w w.heap.size v p) (fr : TypeId × Nat × Nat) (hk : w.heap[1]? = some (.cells kVals fr.1 fr.2)) :
    Calls Tryd.prog 16 #[rv, .string key, vv, v] w fun e w' => e = .returned (.bool (verifyB root key val p)) ∧ Below w.heap.size w w' := by
  have hnk := blk_lt hk
  have HK := Lib.hid hk
  clear hk
  obtain ⟨n, ls⟩ := p
  obtain ⟨lv, rfl, hlv, hn1, hn2⟩ := hl
  dsimp only at hlv hn1 hn2 ⊢
  have HRV := Lib.hid hrv
  have HVV := Lib.hid hvv
  obtain ⟨Ar, cr, rfl⟩ := hrv.form
  obtain ⟨Av, cv, rfl⟩ := hvv.form
  obtain ⟨Al, cl, rfl, hlc, hlm, hlp⟩ := hlv
  unfold maxLen at hlm
  have hbx : Below w.heap.size w (w.alloc (.cells #[.int .i64 n, .slice Al ls.length cl] 33)) := (Below.refl _ _).alloc (Nat.le_refl _) _
  have hgx := heap_alloc_new w (.cells #[.int .i64 n, .slice Al ls.length cl] 33)
  clear hrv hvv
  by_cases h1 : ls.length = 1
  · obtain ⟨l, rfl⟩ : ∃ l, ls = [l] := by
      rcases ls with _ | ⟨a, _ | ⟨b, l⟩⟩
      · simp at h1
      · exact ⟨a, rfl⟩
      · simp at h1
    obtain ⟨b, o, rfl, hbl, hc⟩ := hlp (by simp)
    obtain ⟨sv, pv, c0, c1, c2, c3, hlf⟩ := hc 0 (by simp)
    simp only [List.getElem_cons_zero, Nat.zero_mul, Nat.add_zero] at c0 c1 c2 c3 hlf
    have HV := Lib.hid (verifyB_one (root := root) (key := key) (val := val) (n := n) (l := l))
    generalize verifyB root key val ⟨n, [l]⟩ = R at *
    obtain ⟨i, lk, lval, lpath⟩ := l
    dsimp only at c0 c1 c2 c3 HV
    have HLF := Lib.hid hlf
    obtain ⟨sv', pv', e, hsv, hpv, hks, ha1, ha2⟩ := hlf
    injection e with e
    injection e with e
    injection e with _ e
    injection e with _ e
    injection e with e1 e
    injection e with e2 e
    subst e1; subst e2
    obtain ⟨As, cs, rfl⟩ := hsv.form
    obtain ⟨Ap, cp, rfl⟩ := hpv.form
    dsimp only at hsv hpv hks ha1 ha2
    simp only [List.length_cons, List.length_nil, Nat.zero_add] at hlc hbx hgx ⊢
    have HSV := Lib.hid hsv
    have HEQ := Lib.hid (fun (bb : Bool) (hb : sameB lval val = bb) (W : World) (hbW : Below w.heap.size w W) (k : Nat) => rsame_qb _ _ lval val bb hb W k ((HSV.out.below hbW).more hbW.size) ((HVV.out.below hbW).more hbW.size))
    have HEQ2 := Lib.hid (fun (W : World) (hbW : Below w.heap.size w W) => rsame_any _ _ lval val W ((HSV.out.below hbW).more hbW.size) ((HVV.out.below hbW).more hbW.size))
    have HHO := Lib.hid (fun (W : World) (hb : Below w.heap.size w W) => rholds_any _ root n _ ⟨i, lk, lval, lpath⟩ W ((HRV.out.below hb).more hb.size) ((HLF.out.below hb).more hb.size) fr ((hb.block _ hnk).trans HK.out))
    clear hc hlp h1 hsv hpv
    generalize lval.length = lvl at *
    generalize lpath.length = lpl at *
    generalize val.length = vl at *
    generalize root.length = rl at *
    have i0 : (1 : Int) ≤ (cl : Int) := by omega
    go_enter Tryd.func16, Tryd.ntmps16
    go_wp2_with fail
    generalize w.alloc (.cells #[.int .i64 n, .slice (some ⟨b, o, none⟩) 1 cl] 33) = W0 at *
    have hgl := blk_lt hgx
    have x0 : W0.cell? ⟨w.heap.size, 0, none⟩ = some (.int .i64 n) := blk_cell hgx 0
    have x1 : W0.cell? ⟨w.heap.size, 1, none⟩ = some (.slice (some ⟨b, o, none⟩) 1 cl) := blk_cell hgx 1
    have d0 := (hbx.cell (p := ⟨b, o, none⟩) hbl).trans c0
    have d1 := (hbx.cell (p := ⟨b, o + 1, none⟩) hbl).trans c1
    have d2 := (hbx.cell (p := ⟨b, o + 2, none⟩) hbl).trans c2
    have d3 := (hbx.cell (p := ⟨b, o + 3, none⟩) hbl).trans c3
    cases hk1 : (lk.toList == key.toList) with
    | true =>
      cases hs : sameB lval val with
      | false =>
        have hres : Hid (R = false) := Lib.hid (by rw [HV.out, hk1, hs]; rfl)
        have HC := Lib.hid (HEQ.out false hs W0 hbx)
        clear HV hs
        go_quiet ((go_at_call 34; exact HC.out _))
        have hbo := below_drewN' hbx nq
        go_wp2_with fail
        go_ret
        exact ⟨by rw [hres.out]; rfl, hbo⟩
      | true =>
        have hres : Hid (R = holdsB root n ⟨i, lk, lval, lpath⟩) := Lib.hid (by rw [HV.out, hk1, hs]; rfl)
        have hbd : Below W0.heap.size W0 W0.drew := (Below.refl _ _).drew
        have hbwd : Below w.heap.size w W0.drew := hbx.drew
        have D1 := HEQ2.out W0.drew hbwd
        rw [hs] at D1
        have HD1 := Lib.hid D1
        have D2 := Lib.hid (HHO.out W0.drew hbwd)
        clear HV hs D1
        generalize holdsB root n ⟨i, lk, lval, lpath⟩ = HB at *
        have HS : Hid (∀ W : World, Below W0.heap.size W0 W → W.cell? ⟨w.heap.size, 0, none⟩ = some (.int .i64 n) ∧ W.cell? ⟨w.heap.size, 1, none⟩ = some (.slice (some ⟨b, o, none⟩) 1 cl) ∧ W.cell? ⟨b, o, none⟩ = some (.int .i64 i) ∧ W.cell? ⟨b, o + 1, none⟩ = some (.string lk) ∧ W.cell? ⟨b, o + 2, none⟩ = some (.slice As lvl cs) ∧ W.cell? ⟨b, o + 3, none⟩ = some (.slice Ap lpl cp)) := Lib.hid fun W hb =>
          ⟨(hb.cell (p := ⟨w.heap.size, 0, none⟩) hgl).trans x0, (hb.cell (p := ⟨w.heap.size, 1, none⟩) hgl).trans x1, (hb.cell (p := ⟨b, o, none⟩) (Nat.lt_of_lt_of_le hbl hbx.size)).trans d0, (hb.cell (p := ⟨b, o + 1, none⟩) (Nat.lt_of_lt_of_le hbl hbx.size)).trans d1, (hb.cell (p := ⟨b, o + 2, none⟩) (Nat.lt_of_lt_of_le hbl hbx.size)).trans d2, (hb.cell (p := ⟨b, o + 3, none⟩) (Nat.lt_of_lt_of_le hbl hbx.size)).trans d3⟩
        clear x0 x1 d0 d1 d2 d3 c0 c1 c2 c3 hgx
        go_region_held_law (fun W => W.cell? ⟨w.heap.size, 0, none⟩ = some (.int .i64 n) ∧ W.cell? ⟨w.heap.size, 1, none⟩ = some (.slice (some ⟨b, o, none⟩) 1 cl) ∧ W.cell? ⟨b, o, none⟩ = some (.int .i64 i) ∧ W.cell? ⟨b, o + 1, none⟩ = some (.string lk) ∧ W.cell? ⟨b, o + 2, none⟩ = some (.slice As lvl cs) ∧ W.cell? ⟨b, o + 3, none⟩ = some (.slice Ap lpl cp))
          (with_reducible first | exact HS.out _ hbd | exact HS.out _ hb5)
          (first
            | (go_at_call 34; ((with_reducible refine HD1.out.mono ?_); rintro e w4 ⟨rfl, rfl⟩))
            | (go_at_call 37; ((with_reducible refine D2.out.mono ?_); rintro e w5 ⟨rfl, hb5'⟩; have hb5 := below_chain hbd (Nat.le_refl _) hb5')))
        all_goals (
          have hbo := below_chain hbx hbx.size hb5
          go_wp2_with fail
          go_ret
          exact ⟨by rw [hres.out]; rfl, hbo⟩)
    | false =>
      have hres : Hid (R = false) := Lib.hid (by rw [HV.out, hk1]; rfl)
      clear HV
      go_quiet (fail)
      have hbo := below_drewN' hbx nq
      go_wp2_with fail
      go_ret
      exact ⟨by rw [hres.out]; rfl, hbo⟩
  · have hres : Hid (verifyB root key val ⟨n, ls⟩ = false) := Lib.hid (verifyB_no h1)
    generalize verifyB root key val ⟨n, ls⟩ = R at *
    clear hlp hgx
    generalize ls.length = k at *
    have i1 : ((k : Int) == 1) = false := by simp; omega
    go_enter Tryd.func16, Tryd.ntmps16
    go_wp2_with fail
    go_quiet (fail)
    have hbo := below_drewN' hbx nq
    go_wp2_with fail
    go_ret
    exact ⟨by rw [hres.out]; rfl, hbo⟩
end Go.Proofs.YtpnfdfnbnoplgaaDoor
