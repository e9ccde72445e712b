/- The walk of the document's Sign. -/
import Derived.Test.YtgomhojaappbnaaDoorSignK
import Derived.Test.YtgomhojaappbnaaDoorSignI
namespace Go.Proofs.YtgomhojaappbnaaDoor
open Go Go.RowKit

theorem RowS.getD_ {w : World} {B0 : Nat} {A : Option Addr} {n c : Nat} {ls : List (List UInt8)} (h : RowS w B0 (.slice A n c) ls) (j : Nat) (hj : j < ls.length) : ∃ b o x, A = some ⟨b, o, none⟩ ∧ n = ls.length ∧ b < w.heap.size ∧ w.cell? ⟨b, o + j, none⟩ = some x ∧ RdS w B0 x (ls.getD j []) := by
  obtain ⟨b, o, x, h1, h2, h3, h4, h5⟩ := h.at_ j hj
  refine ⟨b, o, x, h1, h2, h3, h4, ?_⟩
  rw [List.getD_eq_getElem?_getD, List.getElem?_eq_getElem hj]
  exact h5

set_option maxHeartbeats 4000000 in
set_option maxRecDepth 100000 in
theorem rsignBy_any (vl v1 v3 : Value) (seed msg : List UInt8) (key : Nat) (B0 : Nat) (w : World) (hl : RowS w B0 vl (levL seed 0)) (hB0 : B0 ≤ w.heap.size) (h1 : Rd w w.heap.size v1 seed) (h3 : Rd w w.heap.size v3 msg) (hkey : key < 8) (fr : TypeId × Nat × Nat) (hk : w.heap[1]? = some (.cells kVals fr.1 fr.2)) :
    Calls Tryd.prog 19 #[vl, v1, .int .i64 (key : Int), v3] w fun e w' => ∃ v', e = .returned v' ∧ Own w' w.heap.size v' (signL seed key msg) ∧ Below w.heap.size w w' := by
  obtain ⟨i0, hi, hz, hsz, hby⟩ := info_parts Tryd.infoByte
  have hn0 := blk_lt hk
  have HK := Lib.hid hk
  clear hk
  have l0 := levL_length seed 0 (by omega)
  have l1 := levL_length seed 1 (by omega)
  have l2 := levL_length seed 2 (by omega)
  have l3 := levL_length seed 3 (by omega)
  simp only [Nat.reducePow, Nat.reduceDiv] at l0 l1 l2 l3
  have L0 := Lib.hid l0
  have L1 := Lib.hid l1
  have L2 := Lib.hid l2
  have L3 := Lib.hid l3
  clear l0 l1 l2 l3
  obtain ⟨A1, c1, rfl⟩ := h1.form
  obtain ⟨A3, c3, rfl⟩ := h3.form
  obtain ⟨Al, cl, rfl⟩ := hl.form
  have j1 : (0 : Int) ≤ (key : Int) := by omega
  have j2 : (key : Int) < 8 := by omega
  go_enter Tryd.func19, Tryd.ntmps19
  go_wp2_with fail
  refine (above_any _ (levL seed 0) B0 w hl hB0 (by rw [L0.out]) (by rw [L0.out]; omega) fr HK.out).mono ?_
  rintro e w2 ⟨v5, rfl, ho5, hb2⟩
  have hr5 : RowS w2 B0 v5 (levL seed 1) := ho5.rowS
  obtain ⟨A5, c5, rfl⟩ := hr5.form
  clear ho5
  go_wp2_with fail
  refine (above_any _ (levL seed 1) B0 w2 hr5 (Nat.le_trans hB0 hb2.size) (by rw [L1.out]) (by rw [L1.out]; omega) fr ((hb2.block _ hn0).trans HK.out)).mono ?_
  rintro e w3 ⟨v6, rfl, ho6, hb3⟩
  have hq3 := below_chain hb2 hb2.size hb3
  have hr6 : RowS w3 B0 v6 (levL seed 2) := ho6.rowS
  obtain ⟨A6, c6, rfl⟩ := hr6.form
  clear ho6
  go_wp2_with fail
  refine (above_any _ (levL seed 2) B0 w3 hr6 (Nat.le_trans hB0 hq3.size) (by rw [L2.out]) (by rw [L2.out]; omega) fr ((hq3.block _ hn0).trans HK.out)).mono ?_
  rintro e w4 ⟨v7, rfl, ho7, hb4⟩
  have hq4 := below_chain hq3 hq3.size hb4
  have hr7 : RowS w4 B0 v7 (levL seed 3) := ho7.rowS
  obtain ⟨A7, c7, rfl⟩ := hr7.form
  clear ho7
  have h1l : 0 < (levL seed 3).length := by rw [L3.out]; omega
  obtain ⟨b7, o7, y, rfl, -, hlb7, hcy, hry⟩ := hr7.at_ 0 h1l
  rw [root_get] at hry
  obtain ⟨A8, c8, rfl⟩ := hry.1.form
  rw [Nat.add_zero] at hcy
  rw [L3.out]
  have hl4 := hl.up hq4
  have hr54 := (hr5.up hb3).up hb4
  have hr64 := hr6.up hb4
  clear hr7 hr5 hr6 hl h1l hb4 hb3 hb2 hq3
  go_wp2_with fail
  refine (rdigits_any _ _ (rootL seed) msg key w4 hry.1 (h3.up (Nat.le_refl _) hq4) (by omega) fr ((hq4.block _ hn0).trans HK.out)).mono ?_
  rintro e w5 ⟨vD, rfl, hoD, hb5⟩
  have hD := digitsL_length (rootL seed) key msg
  have hDl := digitsL_le (rootL seed) key msg
  have hSG : Hid (signL seed key msg = valsL seed key (digitsL (rootL seed) key msg) 18 ++ sidesL seed key 3) := Lib.hid rfl
  generalize digitsL (rootL seed) key msg = D at *
  obtain ⟨AD, cD, rfl⟩ := hoD.form
  have HOD := Lib.hid hoD
  have HD := Lib.hid hD
  have HDl := Lib.hid hDl
  rw [hD]
  have hq5 := below_chain hq4 hq4.size hb5
  have HL5 := Lib.hid (hl4.up hb5)
  have HR55 := Lib.hid (hr54.up hb5)
  have HR65 := Lib.hid (hr64.up hb5)
  clear hD hDl hoD hry hcy hl4 hr54 hr64 hb5
  go_wp2_with fail
  go_loopw [12, 28] (fun sv i wr => ∃ k : Nat, k ≤ 18 ∧ i = .int .i64 (k : Int) ∧ Own wr w5.heap.size sv (valsL seed key D k) ∧ Below w5.heap.size w5 wr)
    (fun _ i _ => 18 - (intOf i).toNat)
  case atStart => exact ⟨0, by omega, rfl, Own.nil _ _, Below.refl _ _⟩
  case round =>
    obtain ⟨k, hk18, rfl, ho, hb⟩ := hrel
    have hq := below_chain hq5 hq5.size hb
    have hvl := valsL_length seed key D k
    by_cases hlt : k < 18
    · have i3 : (k : Int) < 18 := by omega
      have i4 : (0 : Int) ≤ (k : Int) := by omega
      obtain ⟨g, hAD, -, hgl, hgc⟩ := (HOD.out.up hb).at_ k (by have := HD.out; omega)
      subst hAD
      have hdl := getD_le D k HDl.out
      have hS : Hid (valsL seed key D (k + 1) = valsL seed key D k ++ walkL k 0 (D.getD k 0) (secretL seed key k)) := Lib.hid rfl
      generalize D.getD k 0 = d at *
      have hLl : (valsL seed key D k).length ≤ 576 := by omega
      generalize valsL seed key D k = L at *
      clear hvl
      obtain ⟨As, cs, rfl⟩ := ho.form
      go_wp2_with fail
      refine (rsecret_any _ seed key k wr (h1.up (Nat.le_refl _) hq) (by omega) (by omega) fr ((hq.block _ hn0).trans HK.out)).mono ?_
      rintro e w6 ⟨v6', rfl, ho6, hb6⟩
      have hr6 : RdS w6 w.heap.size v6' (secretL seed key k) := ho6.rdS
      have hq6 := below_chain hq hq.size hb6
      go_wp2_with fail
      refine (along_any v6' (secretL seed key k) k 0 d w6 w.heap.size hr6 (by omega) (by omega) (by omega) fr ((hq6.block _ hn0).trans HK.out)).mono ?_
      rintro e w7 ⟨v7, rfl, hr7, hb7⟩
      have hwl := walkL_length k d 0 (secretL seed key k) (secretL_length seed key k)
      rw [Nat.sub_zero] at hr7
      generalize walkL k 0 d (secretL seed key k) = l4 at *
      obtain ⟨A4, c4, rfl⟩ := hr7.1.formN hwl
      have hwl2 : l4.length ≤ 32 := by omega
      clear hwl
      have ho4 := (ho.below hb6).below hb7
      have hy4 := below_chain (below_chain hb hb.size hb6) (Nat.le_trans hb.size hb6.size) hb7
      clear ho hr6 ho6 hq6 hq hgc
      go_wp2_with (at_builtin; refine wpList_append_rd rfl (.tmp 33) (.tmp 40) _ rfl i0 Tryd.underlying22 hi hz hsz hby rfl ho4 rfl hr7.1 (by omega) hy4.size ?_; intro v8 w8 ho8 hg8 _; have hy8 : Below w5.heap.size w5 w8 := Own.below_grown hy4 ho4 (Nat.le_refl _) hy4.size hg8)
      go_roundw
      case rel => exact ⟨k + 1, by omega, by go_num, by rw [hS.out]; exact ho8, hy8⟩
      case measure => simp [intOf]; omega
    · have i3 : ¬ (k : Int) < 18 := by omega
      obtain rfl : k = 18 := by omega
      have hVl : (valsL seed key D 18).length ≤ 576 := by omega
      have hSV : Hid (signL seed key msg = ((valsL seed key D 18 ++ (levL seed 0).getD (key ^^^ 1) []) ++ (levL seed 1).getD (key / 2 ^^^ 1) []) ++ (levL seed 2).getD (key / 4 ^^^ 1) []) := Lib.hid (by
        rw [hSG.out, sidesL, sidesL, sidesL, sidesL, List.nil_append, Nat.pow_zero, Nat.div_one, Nat.pow_one, show 2 ^ 2 = 4 from rfl]
        simp only [List.append_assoc])
      clear hvl hSG
      generalize valsL seed key D 18 = V at *
      have s0 := side_lt key 0 hkey (by omega)
      have s1 := side_lt key 1 hkey (by omega)
      have s2 := side_lt key 2 hkey (by omega)
      have n0 := side_length seed key 0 hkey (by omega)
      have n1 := side_length seed key 1 hkey (by omega)
      have n2 := side_length seed key 2 hkey (by omega)
      have x0 := xor64 key hkey
      have x1 := xor64 (key / 2) (by omega)
      have x2 := xor64 (key / 4) (by omega)
      rw [show ((key / 2 : Nat) : Int) = (key : Int) / 2 by omega] at x1
      rw [show ((key / 4 : Nat) : Int) = (key : Int) / 4 by omega] at x2
      rw [Nat.pow_zero, Nat.div_one] at s0 n0
      rw [Nat.pow_one] at s1 n1
      rw [show 2 ^ 2 = 4 from rfl] at s2 n2
      simp only [Nat.reduceDiv] at s0 s1 s2
      obtain ⟨b0, o0, u0, rfl, -, hlb0, hc0, hu0⟩ := HL5.out.getD_ (key ^^^ 1) (by rw [L0.out]; exact s0)
      obtain ⟨b1, o1, u1, rfl, -, hlb1, hc1, hu1⟩ := HR55.out.getD_ (key / 2 ^^^ 1) (by rw [L1.out]; exact s1)
      obtain ⟨b2, o2, u2, rfl, -, hlb2, hc2, hu2⟩ := HR65.out.getD_ (key / 4 ^^^ 1) (by rw [L2.out]; exact s2)
      generalize (levL seed 0).getD (key ^^^ 1) [] = t0 at *
      generalize (levL seed 1).getD (key / 2 ^^^ 1) [] = t1 at *
      generalize (levL seed 2).getD (key / 4 ^^^ 1) [] = t2 at *
      generalize key ^^^ 1 = p0 at *
      generalize key / 2 ^^^ 1 = p1 at *
      generalize key / 4 ^^^ 1 = p2 at *
      rw [L0.out, L1.out, L2.out]
      obtain ⟨U0, k0, rfl⟩ := hu0.1.formN n0
      obtain ⟨U1, k1, rfl⟩ := hu1.1.formN n1
      obtain ⟨U2, k2, rfl⟩ := hu2.1.formN n2
      have m0 : t0.length ≤ 32 := by omega
      have m1 : t1.length ≤ 32 := by omega
      have m2 : t2.length ≤ 32 := by omega
      have z0 : (p0 : Int) < 8 := by omega
      have z1 : (p1 : Int) < 4 := by omega
      have z2 : (p2 : Int) < 2 := by omega
      have y0 : (0 : Int) ≤ (p0 : Int) := by omega
      have y1 : (0 : Int) ≤ (p1 : Int) := by omega
      have y2 : (0 : Int) ≤ (p2 : Int) := by omega
      clear n0 n1 n2 s0 s1 s2 HL5 HR55 HR65 HOD HD HDl
      have g0 := (hb.cell (p := ⟨b0, o0 + p0, none⟩) hlb0).trans hc0
      have hv0 := (hu0.up hb).1
      obtain ⟨As, cs, rfl⟩ := ho.form
      go_wp2_with (at_builtin; first
        | (refine wpList_append_rd rfl (.tmp 43) (.tmp 48) _ rfl i0 Tryd.underlying22 hi hz hsz hby rfl ho rfl hv0 (by omega) hb.size ?_; intro v8 w8 ho8 hg8 _
           have hy8 : Below w5.heap.size w5 w8 := Own.below_grown hb ho (Nat.le_refl _) hb.size hg8
           have l8 : (V ++ t0).length ≤ 700 := by rw [List.length_append]; omega
           have g1 := (hy8.cell (p := ⟨b1, o1 + p1, none⟩) hlb1).trans hc1
           have hv1 := (hu1.up hy8).1
           clear hg8 ho hv0)
        | (refine wpList_append_rd rfl (.tmp 50) (.tmp 56) _ rfl i0 Tryd.underlying22 hi hz hsz hby rfl ho8 rfl hv1 (by omega) hy8.size ?_; intro v9 w9 ho9 hg9 _
           have hy9 : Below w5.heap.size w5 w9 := Own.below_grown hy8 ho8 (Nat.le_refl _) hy8.size hg9
           have l9 : ((V ++ t0) ++ t1).length ≤ 800 := by rw [List.length_append]; omega
           have g2 := (hy9.cell (p := ⟨b2, o2 + p2, none⟩) hlb2).trans hc2
           have hv2 := (hu2.up hy9).1
           clear hg9 ho8 hv1)
        | (refine wpList_append_rd rfl (.tmp 58) (.tmp 64) _ rfl i0 Tryd.underlying22 hi hz hsz hby rfl ho9 rfl hv2 (by omega) hy9.size ?_; intro v10 w10 ho10 hg10 _
           have hy10 : Below w5.heap.size w5 w10 := Own.below_grown hy9 ho9 (Nat.le_refl _) hy9.size hg10
           clear hg10 ho9 hv2))
      go_ret
      rw [hSV.out]
      exact ⟨_, rfl, ho10.more hq5.size, below_chain hq5 hq5.size hy10⟩

set_option maxHeartbeats 1000000 in
theorem rsign_yes (v1 v3 : Value) (seed msg : List UInt8) (key : Nat) (w : World) (h1 : Rd w w.heap.size v1 seed) (h3 : Rd w w.heap.size v3 msg) (hkey : key < 8) (fr : TypeId × Nat × Nat) (hk : w.heap[1]? = some (.cells kVals fr.1 fr.2)) :
    Calls Tryd.prog 10 #[v1, .int .i64 (key : Int), v3] w fun e w' => ∃ v', e = .returned (.tuple #[v', .int .i64 0]) ∧ Own w' w.heap.size v' (signL seed key msg) ∧ Below w.heap.size w w' := by
  have hn0 := blk_lt hk
  have HK := Lib.hid hk
  clear hk
  obtain ⟨A1, c1, rfl⟩ := h1.form
  obtain ⟨A3, c3, rfl⟩ := h3.form
  have j1 : (0 : Int) ≤ (key : Int) := by omega
  have j2 : (key : Int) < 8 := by omega
  go_enter Tryd.func10, Tryd.ntmps10
  go_wp2_with fail
  refine (leaves_any _ seed w h1 fr HK.out).mono ?_
  rintro e w2 ⟨v5, rfl, ho5, hb2⟩
  have hr5 := ho5.rowS
  obtain ⟨A5, c5, rfl⟩ := hr5.form
  clear ho5
  go_wp2_with fail
  refine (rsignBy_any _ _ _ seed msg key w.heap.size w2 hr5 hb2.size (h1.up (Nat.le_refl _) hb2) (h3.up (Nat.le_refl _) hb2) hkey fr ((hb2.block _ hn0).trans HK.out)).mono ?_
  rintro e w3 ⟨v6, rfl, ho6, hb3⟩
  obtain ⟨A6, c6, rfl⟩ := ho6.form
  go_wp2_with fail
  go_ret2
  exact ⟨_, rfl, ho6.more hb2.size, below_chain hb2 hb2.size hb3⟩

theorem rsign_no (v1 v3 : Value) (key : Int) (w : World) (hno : key < 0 ∨ 8 ≤ key) :
    Calls Tryd.prog 10 #[v1, .int .i64 key, v3] w fun e w' => e = .returned (.tuple #[.slice none 0 0, .int .i64 30]) ∧ w = w' := by
  by_cases h0 : key < 0
  · clear hno
    go_enter Tryd.func10, Tryd.ntmps10
    go_wp2_with fail
    go_ret2
    exact ⟨rfl, rfl⟩
  · have h8 : 8 ≤ key := by omega
    have h1 : 0 ≤ key := by omega
    clear hno h0
    go_enter Tryd.func10, Tryd.ntmps10
    go_wp2_with fail
    go_ret2
    exact ⟨rfl, rfl⟩
end Go.Proofs.YtgomhojaappbnaaDoor
