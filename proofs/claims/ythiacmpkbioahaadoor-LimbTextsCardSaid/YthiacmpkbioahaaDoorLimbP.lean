
/- The walk of package limb: Print. -/
import Derived.Test.YthiacmpkbioahaaDoorLimbH
import Derived.Test.YthiacmpkbioahaaDoorLimbQ
namespace Go.Proofs.YthiacmpkbioahaaDoor
open Go Go.RowKit

/-- how long a slice is -/
def slen (v : Value) : Nat := match v with | .slice _ n _ => n | _ => 0
theorem Own.slen_eq {w : World} {B : Nat} {v : Value} {l : List UInt8} (h : Own w B v l) : slen v = l.length := by
  obtain ⟨A, c, rfl⟩ := h.form; rfl
theorem Own.cut {w : World} {B : Nat} {A : Option Addr} {n c : Nat} {l : List UInt8} {x : UInt8} (h : Own w B (.slice A n c) (l ++ [x])) : Own w B (.slice A (n - 1) c) l := by
  have hn := h.slen_eq
  have hn' : n = l.length + 1 := by simpa [slen] using hn
  refine ⟨by rw [bcells_length]; omega, ?_⟩
  rcases h.2 with ⟨h0, h1⟩ | ⟨g, cap, cur, hv, hB, hg, hnc, hm, hs, ht⟩
  · simp at h1
  · injection hv with e1 e2 e3
    subst e1; subst e3
    refine .inr ⟨g, c, cur, by rw [hn']; rfl, hB, hg, by simp at hnc; omega, hm, hs, ?_⟩
    have h2 := congrArg (List.take (l.length * 1)) ht
    rw [List.take_take, bcells_append] at h2
    rw [show min (l.length * 1) ((l ++ [x]).length * 1) = l.length * 1 by simp, List.take_left' (by rw [bcells_length]; omega)] at h2
    exact h2
theorem LBlk.keep {w w' : World} {g : Nat} {cs : Array Value} (h : LBlk w g cs) (hb : w'.heap[g]? = w.heap[g]?) : LBlk w' g cs := hb.trans h

theorem Own.set_far {w : World} {B : Nat} {v : Value} {l : List UInt8} (h : Own w B v l) {g : Nat} (hg : g < B) (i : Nat) (u : Value) : Own (w.setCell ⟨g, i, none⟩ u) B v l := by
  refine ⟨h.1, ?_⟩
  rcases h.2 with h0 | ⟨g', cap, cur, hv, hB, hh, rest⟩
  · exact .inl h0
  · exact .inr ⟨g', cap, cur, hv, hB, (Below.heap_setCell w ⟨g, i, none⟩ u g' (show g' ≠ g by omega)).trans hh, rest⟩

set_option maxHeartbeats 2000000 in
theorem print_any (x : U4) (w : World) (hx : x.ok) : Calls Tryd.prog 26 #[x.val] w fun e w' => e = .returned (.string ⟨(printL x.nat).toArray⟩) ∧ Below w.heap.size w w' := by
  obtain ⟨i0, hi, hz, hsz, hby⟩ := info_parts Tryd.infoByte
  have hz0 := (zero_any x ·)
  unfold U4.val U4.cells at hz0
  have HZ := Lib.hid hz0
  clear hz0
  have HX := Lib.hid hx
  clear hx
  by_cases h0 : x = U4.zero
  · have hp : printL x.nat = [48] := by rw [h0]; decide
    rw [hp]
    rw [eqB_iff.2 h0] at HZ
    clear hp h0
    unfold U4.val U4.cells
    go_enter Tryd.func26, Tryd.ntmps26
    go_wp2_with fail
    refine (HZ.out _).mono ?_
    rintro e w1 ⟨rfl, hb⟩
    go_wp2_with fail
    go_ret
    exact ⟨rfl, ((Below.refl _ _).alloc (Nat.le_refl _) _).trans (hb.mono (by simp))⟩
  · rw [eqB_no h0] at HZ
    have hx0 : x.nat ≠ 0 := fun e => h0 (nat_zero.1 e)
    have HX0 := Lib.hid hx0
    clear h0 hx0
    obtain ⟨N, hN⟩ : ∃ N, N = x.nat := ⟨_, rfl⟩
    have HN := Lib.hid hN
    rw [← hN]
    clear hN
    unfold U4.val U4.cells
    go_enter Tryd.func26, Tryd.ntmps26
    go_wp2_with fail
    have hbA : LBlk (w.alloc (.cells #[.int .u64 (x.a : Int), .int .u64 (x.b : Int), .int .u64 (x.c : Int), .int .u64 (x.d : Int)] 24)) w.heap.size x.cells := LBlk.new w _
    have hbW : Below w.heap.size w (w.alloc (.cells #[.int .u64 (x.a : Int), .int .u64 (x.b : Int), .int .u64 (x.c : Int), .int .u64 (x.d : Int)] 24)) := (Below.refl _ _).alloc (Nat.le_refl _) _
    refine (HZ.out _).mono ?_
    rintro e w1 ⟨rfl, hb⟩
    replace hbA := hbA.below hb (by simp)
    replace hbW := below_chain hbW hbW.size hb
    clear hb
    go_wp2_with fail
    have hNt : N < top := by rw [HN.out]; exact nat_lt HX.out
    have HNT := Lib.hid hNt
    clear hNt
    go_loopw [3] (fun v wr => ∃ (j : Nat) (A : U4), j ≤ 5 ∧ A.ok ∧ A.nat = N / 10 ^ (19 * j) ∧ LBlk wr w.heap.size A.cells ∧ Own wr (w.heap.size + 1) v (digN (19 * j) N) ∧ Below w.heap.size w wr) (fun v _ => 200 - slen v)
    case atStart => exact ⟨0, x, by omega, HX.out, by rw [HN.out]; simp, hbA, Own.nil _ _, hbW⟩
    case round =>
      clear hbA hbW HZ
      obtain ⟨j, A, hj5, hA, hAn, hbk, ho, hbe⟩ := hrel
      have hsl0 := ho.slen_eq
      rw [digN_length] at hsl0
      have HSL := Lib.hid hsl0
      clear hsl0
      have HA := Lib.hid hA
      have HAN := Lib.hid hAn
      obtain ⟨c0, c1, c2, c3⟩ := hbk.all
      have f0 := hbk.free 0
      have f1 := hbk.free 1
      have f2 := hbk.free 2
      have f3 := hbk.free 3
      have HZA := (zero_any A ·)
      by_cases hz0 : A = U4.zero
      · rw [eqB_iff.2 hz0] at HZA
        have hA0 : A.nat = 0 := by rw [hz0]; rfl
        have hj1 : 1 ≤ j := by
          rcases Nat.eq_zero_or_pos j with h | h
          · exfalso
            subst h
            rw [hA0] at hAn
            simp at hAn
            exact HX0.out (by rw [← HN.out]; exact hAn.symm)
          · exact h
        have hNl : N < 10 ^ (19 * j) := by
          rw [hA0] at hAn
          rcases Nat.div_eq_zero_iff.1 hAn.symm with h | h
          · have := Nat.pow_pos (n := 19 * j) (show 0 < 10 by decide); omega
          · exact h
        obtain ⟨K, hK⟩ : ∃ K, 19 * j = K + 1 := ⟨19 * j - 1, by omega⟩
        rw [hK] at hNl ho
        have hK94 : K ≤ 94 := by omega
        unfold U4.val U4.cells at HZA
        have HZ := Lib.hid HZA
        have HNL := Lib.hid hNl
        have HBK := Lib.hid hbk
        have hbs0 := hbe.size
        clear HZA hz0 hA hAn hA0 hbk hK hNl hj1 HSL
        go_wp2_with fail
        refine (HZ.out _).mono ?_
        rintro e w2 ⟨rfl, hb2⟩
        have ho2 := ho.below hb2
        have hbe2 := below_chain hbe hbs0 hb2
        clear ho hbe hb2 c0 c1 c2 c3 f0 f1 f2 f3 HZ
        go_wp2_with fail
        go_loopw [3] (fun v wr => ∃ k : Nat, k ≤ 94 ∧ N < 10 ^ (k + 1) ∧ Own wr (w.heap.size + 1) v (digN (k + 1) N) ∧ Below w.heap.size w wr) (fun v _ => slen v)
        case atStart => exact ⟨K, hK94, HNL.out, ho2, hbe2⟩
        case round =>
          clear ho2 hbe2
          obtain ⟨k, hk94, hNk, ho, hbe⟩ := hrel
          obtain ⟨L, hL⟩ : ∃ L, L = digN (k + 1) N := ⟨_, rfl⟩
          rw [← hL] at ho
          have hLl : L.length = k + 1 := by rw [hL, digN_length]
          have hL95 : (L.length : Int) ≤ 95 := by omega
          have hL0 : (1 : Int) ≤ (L.length : Int) := by omega
          obtain ⟨A3, c, rfl⟩ := ho.form
          obtain ⟨g, rfl, hgB, hglt, hcell, hfree, _⟩ := ho.at_ (k := L.length - 1) (by omega) (by omega)
          have hLc : (L.length : Int) ≤ (c : Int) := by
            obtain ⟨A', c', hv', hlc, _, _⟩ := ho.rd
            injection hv' with _ _ h3
            omega
          have hLc1 : (L.length : Int) - 1 ≤ (c : Int) := by omega
          have hlast : L[L.length - 1]'(by omega) = dg (N / 10 ^ k) := by
            have e1 : L = digN k N ++ [dg (N / 10 ^ k)] := by rw [hL, digN_snoc]
            have e2 : L.length - 1 = (digN k N).length := by rw [digN_length]; omega
            simp only [e2]
            rw [List.getElem_of_eq e1, List.getElem_append_right (Nat.le_refl _)]
            simp
          rw [hlast] at hcell
          have HL := Lib.hid hL
          have HLL := Lib.hid hLl
          have HNK := Lib.hid hNk
          clear hlast hNk hfree
          by_cases hk0 : k = 0
          · have i1 : ¬ (1 : Int) < (L.length : Int) := by omega
            have i2 : (L.length : Int) ≤ 1 := by omega
            have hPL : printL N = L.reverse := by rw [hL, printL_eq (k := k) (by omega) HNK.out (.inl hk0)]
            clear hL hLl hk0
            have hrd := ho.rd
            have hbs := hbe.size
            have hmk : ∀ W : World, (Instr.makeSlice 41 (.int .i64 (L.length : Int)) (.int .i64 (L.length : Int))).run Tryd.prog W = .ok (.slice (some ⟨W.heap.size, 0, none⟩) L.length L.length) (W.alloc (.cells (List.replicate L.length (Value.int .u8 0)).toArray 5)) := by
              intro W
              rw [run_make W 41 5 i0 (.int .u8 0) Tryd.underlying41 hi hz .i64 .i64 L.length L.length (by omega) (by omega) (by rw [hby]; omega) (by omega)]
              rw [Int.toNat_natCast, hsz, Nat.mul_one]
              congr 3
              apply Array.ext'
              rw [show (Value.int IntKind.u8 0).cells = #[Value.int .u8 0] from rfl, toList_madeCells_one]
            have hmade := Own.made (B := wr.heap.size) wr (List.replicate L.length 0) (Nat.le_refl _) (by simp [maxLen]; omega)
            rw [← replicate_bcells, List.length_replicate] at hmade
            have hrd5 := (hrd.alloc (Nat.le_refl _) (.cells (List.replicate L.length (Value.int .u8 0)).toArray 5))
            have hbe5 := hbe.alloc hbs (.cells (List.replicate L.length (Value.int .u8 0)).toArray 5)
            have hAR : (List.replicate L.length (Value.int .u8 0)).toArray = Array.replicate L.length (Value.int .u8 0) := by simp
            rw [hAR] at hmade hrd5 hbe5
            simp only [hAR] at hmk
            clear hAR
            have HML := Lib.hid hPL
            clear hPL ho hrd hbe hcell
            go_wp2_with fail
            generalize hW5 : wr.alloc (.cells (Array.replicate L.length (Value.int .u8 0)) 5) = w5 at *
            have hw5s : w5.heap.size = wr.heap.size + 1 := by rw [← hW5]; simp
            generalize hH5 : wr.heap.size = h5 at *
            clear hW5 hmk
            have HW5 := Lib.hid (And.intro hw5s hH5)
            clear hw5s hH5
            go_loopw [52] (fun i wr => ∃ t : Nat, t ≤ L.length ∧ i = .int .i64 (t : Int) ∧ Own wr h5 (.slice (some ⟨h5, 0, none⟩) L.length L.length) (List.replicate (L.length - t) 0 ++ (L.take t).reverse) ∧ Rd wr h5 (.slice (some ⟨g, 0, none⟩) L.length c) L ∧ Below w.heap.size w wr) (fun i _ => L.length - (intOf i).toNat)
            case atStart => exact ⟨0, by omega, rfl, by simpa using hmade, hrd5, hbe5⟩
            case round =>
              clear hmade hrd5 hbe5
              obtain ⟨t, ht, rfl, ho5, hr5, hbe6⟩ := hrel
              by_cases htl : t < L.length
              · have i3 : (t : Int) < (L.length : Int) := by omega
                have i4 : (0 : Int) ≤ (t : Int) := by omega
                obtain ⟨_, b, o, hbo, hbl, hcs⟩ := hr5.cell (by omega)
                obtain ⟨hbg, ho0⟩ : b = g ∧ o = 0 := by injection hbo with hbo; injection hbo with h1 h2; exact ⟨h1.symm, h2.symm⟩
                rw [hbg] at hcs hbl
                rw [ho0] at hcs
                clear hbo hbg ho0
                have e1 := hcs t htl
                rw [Nat.zero_add] at e1
                unfold bval at e1
                have hst := rev_step L htl
                have hll : (List.replicate (L.length - t) (0 : UInt8) ++ (L.take t).reverse).length = L.length := by simp; omega
                obtain ⟨g2, hg2, hgB2, hgl2, hc2, hf2, hs2⟩ := ho5.at_ (k := L.length - 1 - t) (by omega) (by omega)
                have hg5 : g2 = h5 := by injection hg2 with h; injection h with h; exact h.symm
                rw [hg5] at hc2 hf2 hs2
                obtain ⟨uv, hc3⟩ : ∃ u, wr.cell? ⟨h5, L.length - 1 - t, none⟩ = some u := ⟨_, hc2⟩
                have hnew := hs2 L[t]
                rw [hst] at hnew
                unfold bval at hnew
                have hrn : Rd (wr.setCell ⟨h5, L.length - 1 - t, none⟩ (.int .u8 (L[t].toNat : Int))) h5 (.slice (some ⟨g, 0, none⟩) L.length c) L := hr5.keep fun p hp => World.cell?_setCell_other wr _ p _ (fun e => by subst e; simp at hp)
                have hbn := hbe6.setCell (p := ⟨h5, L.length - 1 - t, none⟩) (show w.heap.size ≤ h5 by omega) (.int .u8 (L[t].toNat : Int))
                have i5 : (0 : Int) ≤ (L.length : Int) - 1 - (t : Int) := by omega
                have i6 : ((L.length : Int) - 1 - (t : Int)).toNat = L.length - 1 - t := by omega
                have i7 : (L.length : Int) - 1 - (t : Int) < (L.length : Int) := by omega
                have HNW := Lib.hid (And.intro hnew (And.intro hrn hbn))
                clear hc2 hst hs2 hnew hrn hbn ho5 hr5 hbe6 hcs hg2 hg5 hgB2 hgl2
                generalize L[t].toNat = bt at *
                go_wp2_with fail
                go_roundw
                case rel => exact ⟨t + 1, by omega, by go_num, HNW.out.1, HNW.out.2.1, HNW.out.2.2⟩
                case measure => simp [intOf]; omega
              · have htt : t = L.length := by omega
                subst htt
                have hfr := ho5.rd
                rw [Nat.sub_self, List.take_of_length_le (Nat.le_refl _)] at hfr
                have hcv := run_str (P := Tryd.prog) Tryd.underlying41 Tryd.underlying5 Tryd.underlying9 (by simpa using hfr : Rd wr wr.heap.size _ L.reverse)
                clear ho5 hr5 hfr
                have hbb := Lib.hid hbe6
                clear hbe6
                go_wp2_with fail
                go_ret
                exact ⟨by rw [HML.out]; rfl, hbb.out⟩
          · have i1 : (1 : Int) < (L.length : Int) := by omega
            have i8 : (0 : Int) ≤ (L.length : Int) - 1 := by omega
            have i9 : ((L.length : Int) - 1).toNat = L.length - 1 := by omega
            by_cases h48 : (dg (N / 10 ^ k)).toNat = 48
            · have b1 : (((dg (N / 10 ^ k)).toNat : Int) == 48) = true := by rw [h48]; rfl
              obtain ⟨k', rfl⟩ : ∃ k', k = k' + 1 := ⟨k - 1, by omega⟩
              have hN2 := digN_strip HNK.out h48
              have hoc : Own wr (w.heap.size + 1) (.slice (some ⟨g, 0, none⟩) (L.length - 1) c) (digN (k' + 1) N) := by
                rw [hL, digN_snoc] at ho ⊢
                exact ho.cut
              have HOC := Lib.hid hoc
              have HN2 := Lib.hid hN2
              clear hL hLl hk0 h48 hoc hN2 ho
              generalize (dg (N / 10 ^ (k' + 1))).toNat = bt at *
              have HBE := Lib.hid hbe
              clear hbe
              go_wp2_with fail
              go_roundw
              case rel => exact ⟨k', by omega, HN2.out, HOC.out, HBE.out⟩
              case measure => have := HLL.out; simp [slen]; omega
            · have b1 : (((dg (N / 10 ^ k)).toNat : Int) == 48) = false := by rw [beq_eq_false_iff_ne]; omega
              have hPL : printL N = L.reverse := by rw [hL, printL_eq (k := k) (by omega) HNK.out (.inr h48)]
              generalize (dg (N / 10 ^ k)).toNat = bt at *
              clear hL hLl hk0 h48
              have hrd := ho.rd
              have hbs := hbe.size
              have hmk : ∀ W : World, (Instr.makeSlice 41 (.int .i64 (L.length : Int)) (.int .i64 (L.length : Int))).run Tryd.prog W = .ok (.slice (some ⟨W.heap.size, 0, none⟩) L.length L.length) (W.alloc (.cells (List.replicate L.length (Value.int .u8 0)).toArray 5)) := by
                intro W
                rw [run_make W 41 5 i0 (.int .u8 0) Tryd.underlying41 hi hz .i64 .i64 L.length L.length (by omega) (by omega) (by rw [hby]; omega) (by omega)]
                rw [Int.toNat_natCast, hsz, Nat.mul_one]
                congr 3
                apply Array.ext'
                rw [show (Value.int IntKind.u8 0).cells = #[Value.int .u8 0] from rfl, toList_madeCells_one]
              have hmade := Own.made (B := wr.heap.size) wr (List.replicate L.length 0) (Nat.le_refl _) (by simp [maxLen]; omega)
              rw [← replicate_bcells, List.length_replicate] at hmade
              have hrd5 := (hrd.alloc (Nat.le_refl _) (.cells (List.replicate L.length (Value.int .u8 0)).toArray 5))
              have hbe5 := hbe.alloc hbs (.cells (List.replicate L.length (Value.int .u8 0)).toArray 5)
              have hAR : (List.replicate L.length (Value.int .u8 0)).toArray = Array.replicate L.length (Value.int .u8 0) := by simp
              rw [hAR] at hmade hrd5 hbe5
              simp only [hAR] at hmk
              clear hAR
              have HML := Lib.hid hPL
              clear hPL ho hrd hbe
              go_wp2_with fail
              clear hcell
              generalize hW5 : wr.alloc (.cells (Array.replicate L.length (Value.int .u8 0)) 5) = w5 at *
              have hw5s : w5.heap.size = wr.heap.size + 1 := by rw [← hW5]; simp
              generalize hH5 : wr.heap.size = h5 at *
              clear hW5 hmk
              have HW5 := Lib.hid (And.intro hw5s hH5)
              clear hw5s hH5
              go_loopw [52] (fun i wr => ∃ t : Nat, t ≤ L.length ∧ i = .int .i64 (t : Int) ∧ Own wr h5 (.slice (some ⟨h5, 0, none⟩) L.length L.length) (List.replicate (L.length - t) 0 ++ (L.take t).reverse) ∧ Rd wr h5 (.slice (some ⟨g, 0, none⟩) L.length c) L ∧ Below w.heap.size w wr) (fun i _ => L.length - (intOf i).toNat)
              case atStart => exact ⟨0, by omega, rfl, by simpa using hmade, hrd5, hbe5⟩
              case round =>
                clear hmade hrd5 hbe5
                obtain ⟨t, ht, rfl, ho5, hr5, hbe6⟩ := hrel
                by_cases htl : t < L.length
                · have i3 : (t : Int) < (L.length : Int) := by omega
                  have i4 : (0 : Int) ≤ (t : Int) := by omega
                  obtain ⟨_, b, o, hbo, hbl, hcs⟩ := hr5.cell (by omega)
                  obtain ⟨hbg, ho0⟩ : b = g ∧ o = 0 := by injection hbo with hbo; injection hbo with h1 h2; exact ⟨h1.symm, h2.symm⟩
                  rw [hbg] at hcs hbl
                  rw [ho0] at hcs
                  clear hbo hbg ho0
                  have e1 := hcs t htl
                  rw [Nat.zero_add] at e1
                  unfold bval at e1
                  have hst := rev_step L htl
                  have hll : (List.replicate (L.length - t) (0 : UInt8) ++ (L.take t).reverse).length = L.length := by simp; omega
                  obtain ⟨g2, hg2, hgB2, hgl2, hc2, hf2, hs2⟩ := ho5.at_ (k := L.length - 1 - t) (by omega) (by omega)
                  have hg5 : g2 = h5 := by injection hg2 with h; injection h with h; exact h.symm
                  rw [hg5] at hc2 hf2 hs2
                  obtain ⟨uv, hc3⟩ : ∃ u, wr.cell? ⟨h5, L.length - 1 - t, none⟩ = some u := ⟨_, hc2⟩
                  have hnew := hs2 L[t]
                  rw [hst] at hnew
                  unfold bval at hnew
                  have hrn : Rd (wr.setCell ⟨h5, L.length - 1 - t, none⟩ (.int .u8 (L[t].toNat : Int))) h5 (.slice (some ⟨g, 0, none⟩) L.length c) L := hr5.keep fun p hp => World.cell?_setCell_other wr _ p _ (fun e => by subst e; simp at hp)
                  have hbn := hbe6.setCell (p := ⟨h5, L.length - 1 - t, none⟩) (show w.heap.size ≤ h5 by omega) (.int .u8 (L[t].toNat : Int))
                  have i5 : (0 : Int) ≤ (L.length : Int) - 1 - (t : Int) := by omega
                  have i6 : ((L.length : Int) - 1 - (t : Int)).toNat = L.length - 1 - t := by omega
                  have i7 : (L.length : Int) - 1 - (t : Int) < (L.length : Int) := by omega
                  have HNW := Lib.hid (And.intro hnew (And.intro hrn hbn))
                  clear hc2 hst hs2 hnew hrn hbn ho5 hr5 hbe6 hcs hg2 hg5 hgB2 hgl2
                  generalize L[t].toNat = bt at *
                  go_wp2_with fail
                  go_roundw
                  case rel => exact ⟨t + 1, by omega, by go_num, HNW.out.1, HNW.out.2.1, HNW.out.2.2⟩
                  case measure => simp [intOf]; omega
                · have htt : t = L.length := by omega
                  subst htt
                  have hfr := ho5.rd
                  rw [Nat.sub_self, List.take_of_length_le (Nat.le_refl _)] at hfr
                  have hcv := run_str (P := Tryd.prog) Tryd.underlying41 Tryd.underlying5 Tryd.underlying9 (by simpa using hfr : Rd wr wr.heap.size _ L.reverse)
                  clear ho5 hr5 hfr
                  have hbb := Lib.hid hbe6
                  clear hbe6
                  go_wp2_with fail
                  go_ret
                  exact ⟨by rw [HML.out]; rfl, hbb.out⟩
      · rw [eqB_no hz0] at HZA
        have hne : A.nat ≠ 0 := fun e => hz0 (nat_zero.1 e)
        have hj4 : j ≤ 4 := digits_most (n := N) HNT.out (by rw [← hAn]; exact hne)
        have HDA := (div_any A 10000000000000000000 · hA (by decide))
        have hdu : divU A 10000000000000000000 = (ofN (A.nat / 10000000000000000000), A.nat % 10000000000000000000) := rfl
        rw [hdu] at HDA
        obtain ⟨q, hq⟩ : ∃ q, q = ofN (A.nat / 10000000000000000000) := ⟨_, rfl⟩
        obtain ⟨r0, hr0⟩ : ∃ r0, r0 = A.nat % 10000000000000000000 := ⟨_, rfl⟩
        rw [← hq, ← hr0] at HDA
        have hqk : q.ok := by rw [hq]; exact ofN_ok _
        have hqn : q.nat = N / 10 ^ (19 * (j + 1)) := by
          have h1 := nat_lt hA
          rw [hq, nat_ofN (Nat.lt_of_le_of_lt (Nat.div_le_self _ _) h1), hAn, Nat.mul_succ, Nat.pow_add, ← Nat.div_div_eq_div_mul]
        have hr1 : r0 < 10000000000000000000 := by rw [hr0]; exact Nat.mod_lt _ (by decide)
        have hrd : digN (19 * (j + 1)) N = digN (19 * j) N ++ digN 19 r0 := by
          rw [Nat.mul_succ, digN_add, hr0, hAn]
          congr 1
          exact (digN_mod 19 _).symm
        unfold U4.val U4.cells at HZA HDA
        have HZ := Lib.hid HZA
        have HD := Lib.hid HDA
        have HQK := Lib.hid (And.intro hqk hqn)
        have HR := Lib.hid (And.intro hr1 hrd)
        have hbs := hbe.size
        have HBK := Lib.hid hbk
        clear HZA HDA hdu hq hr0 hqk hqn hr1 hrd hz0 hne hA hAn hbk
        go_wp2_with fail
        refine (HZ.out _).mono ?_
        rintro e w2 ⟨rfl, hb2⟩
        have hbk2 := HBK.out.below hb2 HBK.out.lt
        have ho2 := ho.below hb2
        have hbe2 := below_chain hbe hbs hb2
        have hbs2 := hbe2.size
        have HBK2 := Lib.hid hbk2
        obtain ⟨c0, c1, c2, c3⟩ := hbk2.all
        clear ho hbe hb2 hbk2
        go_wp2_with fail
        refine (HD.out _).mono ?_
        rintro e w3 ⟨rfl, hb3⟩
        have hbk3 := HBK2.out.below hb3 HBK2.out.lt
        have ho3 := ho2.below hb3
        have hbe3 := below_chain hbe2 hbs2 hb3
        have hbs3 := hbe3.size
        obtain ⟨c0, c1, c2, c3⟩ := hbk3.all
        have f0 := hbk3.free 0
        have f1 := hbk3.free 1
        have f2 := hbk3.free 2
        have f3 := hbk3.free 3
        have HBK3 := Lib.hid hbk3
        clear ho2 hbe2 hb3 hbk3
        go_wp2_with fail
        have hbk4 := HBK3.out.set4 q
        have ho4 := (((ho3.set_far (Nat.lt_succ_self _) 0 (.int .u64 (q.a : Int))).set_far (Nat.lt_succ_self _) 1 (.int .u64 (q.b : Int))).set_far (Nat.lt_succ_self _) 2 (.int .u64 (q.c : Int))).set_far (Nat.lt_succ_self _) 3 (.int .u64 (q.d : Int))
        have hbe4 := (((hbe3.setCell (p := ⟨w.heap.size, 0, none⟩) (Nat.le_refl _) (.int .u64 (q.a : Int))).setCell (p := ⟨w.heap.size, 1, none⟩) (Nat.le_refl _) (.int .u64 (q.b : Int))).setCell (p := ⟨w.heap.size, 2, none⟩) (Nat.le_refl _) (.int .u64 (q.c : Int))).setCell (p := ⟨w.heap.size, 3, none⟩) (Nat.le_refl _) (.int .u64 (q.d : Int))
        clear c0 c1 c2 c3 f0 f1 f2 f3 ho3 hbe3 hbs2 hbs3 hbs HD HZ
        generalize (((w3.setCell { block := w.heap.size, off := 0 } (Value.int IntKind.u64 ↑q.a)).setCell { block := w.heap.size, off := 1 } (Value.int IntKind.u64 ↑q.b)).setCell { block := w.heap.size, off := 2 } (Value.int IntKind.u64 ↑q.c)).setCell { block := w.heap.size, off := 3 } (Value.int IntKind.u64 ↑q.d) = w4 at *
        go_loopw [3, 4, 18] (fun v r i wr => ∃ t m : Nat, t ≤ 19 ∧ i = .int .i64 (t : Int) ∧ r = .int .u64 (m : Int) ∧ m = r0 / 10 ^ t ∧ LBlk wr w.heap.size q.cells ∧ Own wr (w.heap.size + 1) v (digN (19 * j) N ++ digN t r0) ∧ Below w.heap.size w wr) (fun _ _ i _ => 19 - (intOf i).toNat)
        case atStart => exact ⟨0, r0, by omega, rfl, rfl, by simp, hbk4, by simpa [digN] using ho4, hbe4⟩
        case round =>
          clear hbk4 ho4 hbe4
          obtain ⟨t, m, ht, rfl, rfl, hm, hbk, ho, hbe⟩ := hrel
          have HM := Lib.hid hm
          have hm19 : m < 10000000000000000000 := by rw [hm]; exact Nat.lt_of_le_of_lt (Nat.div_le_self _ _) HR.out.1
          have hlen : (digN (19 * j) N ++ digN t r0).length ≤ 95 := by rw [List.length_append, digN_length, digN_length]; omega
          have hbs := hbe.size
          have hlt0 := hbk.lt
          clear hm
          by_cases hlt : t < 19
          · have i2 : (t : Int) < 19 := by omega
            obtain ⟨dd, hdd⟩ : ∃ dd, dd = m % 10 := ⟨_, rfl⟩
            obtain ⟨m', hm'⟩ : ∃ m', m' = m / 10 := ⟨_, rfl⟩
            have e1 : (m : Int) % 10 = (dd : Int) := by omega
            have e2 : (m : Int) / 10 = (m' : Int) := by omega
            have hdl : (dd : Int) ≤ 9 := by omega
            have hdb : bval (dg m) = .int .u8 (48 + (dd : Int)) := by unfold bval; rw [dg_toNat, ← hdd]; simp
            have hdc := rd_lit wr #[.int .u8 (48 + (dd : Int))] [dg m] 1 rfl (by rw [← hdb]; rfl) (by simp [maxLen])
            have HDM := Lib.hid hm'
            have HBK := Lib.hid hbk
            have HDC := Lib.hid hdc
            clear hbk hdd hm' hdb hdc
            go_wp2_with (at_builtin; refine wpList_append_rd rfl (.tmp 20) (.tmp 25) _ rfl i0 Tryd.underlying41 hi hz hsz hby rfl (ho.alloc _) rfl HDC.out (by rw [List.length_singleton]; omega) (by simp; omega) ?_; intro v5 w5 ho5 hg5 hv5)
            have hb5 : Below w.heap.size w w5 := Own.below_grown (hbe.alloc hbs _) (ho.alloc _) (by omega) (by simp; omega) hg5
            have hk5 : LBlk w5 w.heap.size q.cells := by
              refine (HBK.out.alloc _).keep (hg5.block w.heap.size (by simp; omega) ?_)
              intro e
              have := ho.lt _ e.symm
              omega
            have hst : digN (19 * j) N ++ digN t r0 ++ [dg m] = digN (19 * j) N ++ digN (t + 1) r0 := by
              rw [digN_snoc, List.append_assoc, HM.out]
            rw [hst] at ho5
            have hmm : m' = r0 / 10 ^ (t + 1) := by
              rw [HDM.out, HM.out, Nat.div_div_eq_div_mul, Nat.pow_succ]
            clear hst hg5 hv5
            go_roundw
            case rel => exact ⟨t + 1, m', by omega, by go_num, rfl, hmm, hk5, ho5, hb5⟩
            case measure => simp [intOf]; omega
          · have ht19 : t = 19 := by omega
            subst ht19
            rw [← HR.out.2] at ho
            have hsl := ho.slen_eq
            rw [digN_length] at hsl
            have hso := HSL.out
            have HQ := Lib.hid hbk
            clear hbk
            go_wp2_with fail
            go_roundw
            case rel => exact ⟨j + 1, q, by omega, HQK.out.1, HQK.out.2, HQ.out, ho, hbe⟩
            case measure => omega
end Go.Proofs.YthiacmpkbioahaaDoor
