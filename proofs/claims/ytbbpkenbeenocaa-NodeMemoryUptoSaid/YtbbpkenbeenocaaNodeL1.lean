
/- The law NodeBytes, walked. -/
import Derived.Test.YtbbpkenbeenocaaNodeI
import Derived.Test.YtbbpkenbeenocaaNodeN
import Derived.Test.YtbbpkenbeenocaaDiskR
import Derived.Test.YtbbpkenbeenocaaDiskF
import Derived.Laws.Concat
namespace Go.Proofs.Ytbbpkenbeenocaa
open Go Go.RowKit
set_option linter.unusedVariables false
variable {w w' : World} {F : Nat → Prop} {d : Nat} {m : DM} {B : Nat}

theorem list_add' (l m : List UInt8) (h : l.length + m.length ≤ 9223372036854775807) (w : World) : (Op.stringOp .add ⟨l.toArray⟩ ⟨m.toArray⟩).run Try.prog w = .ok (.string ⟨(l ++ m).toArray⟩) w := by
  have := run_string_add_sum (P := Try.prog) (w := w) ⟨l.toArray⟩ ⟨m.toArray⟩ (by simpa [ByteArray.size] using h)
  rw [this]
  congr 2
theorem rep_add (k : Nat) (h : k ≤ 1048576) (w : World) : (Op.stringOp .add ⟨Array.replicate k (1 : UInt8)⟩ ⟨#[1]⟩).run Try.prog w = .ok (.string ⟨Array.replicate (k + 1) (1 : UInt8)⟩) w := by
  have := run_string_add_sum (P := Try.prog) (w := w) ⟨Array.replicate k (1 : UInt8)⟩ ⟨#[1]⟩ (by simp [ByteArray.size]; omega)
  rw [this]
  congr 2
  apply ByteArray.ext
  rw [ByteArray.data_append]
  exact Array.toList_inj.1 (by simp [List.replicate_succ'])
def bytesM (rs : List (List UInt8)) : DM := if rs = [] then newM else twoM (logL rs) (List.replicate rs.length 1)
def quadM (L : List UInt8) (s : Nat) (M : List UInt8) (t : Nat) : DM := ⟨[⟨sLog, L, s⟩, ⟨sMarks, M, t⟩], false, 0⟩
def oneM (L : List UInt8) (s : Nat) : DM := ⟨[⟨sLog, L, s⟩], false, 0⟩
theorem put_quad {m m1 m2 : DM} {L M : List UInt8} {s t : Nat} {r : List UInt8} (h1 : appendM m sLog (entryN r) = (0, m1)) (h2 : syncM m1 sLog = (0, m2)) (h3 : appendM m2 sMarks [1] = (0, quadM L s M t)) : putE r m = (0, quadM L s M M.length) := by
  have h4 : syncM (quadM L s M t) sMarks = (0, quadM L s M M.length) := rfl
  have e0 : ∀ m, putS r 0 m = appendM m sLog (entryN r) := fun _ => rfl
  have e1 : ∀ m, putS r 1 m = syncM m sLog := fun _ => rfl
  have e2 : ∀ m, putS r 2 m = appendM m sMarks [1] := fun _ => rfl
  have e3 : ∀ m, putS r 3 m = syncM m sMarks := fun _ => rfl
  simp only [putE, putF, Nat.zero_add, Nat.reduceAdd, e0, h1, e1, h2, e2, h3, e3, h4, if_true]
theorem two_put (r L M : List UInt8) : putE r (twoM L M) = (0, twoM (L ++ entryN r) (M ++ [1])) :=
  put_quad (m1 := quadM (L ++ entryN r) L.length M M.length) (m2 := quadM (L ++ entryN r) (L ++ entryN r).length M M.length) (t := M.length) rfl rfl rfl
theorem new_put (r : List UInt8) : putE r newM = (0, twoM (entryN r) [1]) :=
  put_quad (m1 := oneM (entryN r) 0) (m2 := oneM (entryN r) (entryN r).length) (t := 0) rfl rfl rfl
theorem bytes_put (rs : List (List UInt8)) (r : List UInt8) : putE r (bytesM rs) = (0, bytesM (rs ++ [r])) := by
  unfold bytesM
  rw [if_neg (show ¬ rs ++ [r] = [] by simp)]
  by_cases h : rs = []
  · subst h; rw [if_pos rfl, new_put]; simp [logL, entryN]
  · rw [if_neg h, two_put]; simp [logL, List.replicate_succ']
theorem logL_length : ∀ rs : List (List UInt8), (logL rs).length = 8 * rs.length + (rs.map List.length).sum := by
  intro rs
  induction rs with
  | nil => rfl
  | cons r rs ih =>
    unfold logL at ih ⊢
    rw [List.flatMap_cons, List.length_append, ih, entryN_length]
    simp only [List.length_cons, List.map_cons, List.sum_cons]
    omega
theorem bytes_good (rs : List (List UInt8)) : GoodL (bytesM rs).files := by
  unfold bytesM
  split
  · exact good_new
  · refine ⟨by simp [twoM], ?_, ?_, ?_⟩
    · simp only [twoM, List.map_cons, List.map_nil]; decide
    · simp only [twoM, List.map_cons, List.map_nil]; decide
    · simp [twoM]
theorem bytes_tot (rs : List (List UInt8)) : totM (bytesM rs).files ≤ 9 * rs.length + (rs.map List.length).sum := by
  unfold bytesM
  split
  · simp [totM, newM]
  · simp only [totM, twoM, List.map_cons, List.map_nil, List.sum_cons, List.sum_nil, List.length_replicate, logL_length]; omega
theorem sum_take (ls : List (List UInt8)) (k : Nat) : ((ls.take k).map List.length).sum ≤ (ls.map List.length).sum := by
  have h : ((ls.take k).map List.length).sum + ((ls.drop k).map List.length).sum = (ls.map List.length).sum := by
    rw [← List.sum_append, ← List.map_append, List.take_append_drop]
  omega
theorem two_read1 (L M : List UInt8) : readM (twoM L M) sLog = (L, 0) := rfl
theorem two_read2 (L M : List UInt8) : readM (twoM L M) sMarks = (M, 0) := rfl
theorem two_wait (L M : List UInt8) : waitM (twoM L M).files = 0 := by simp [waitM, twoM]
theorem mem_len {ls : List (List UInt8)} {l : List UInt8} (h : l ∈ ls) : l.length ≤ (ls.map List.length).sum := by
  induction ls with
  | nil => cases h
  | cons x xs ih =>
    simp only [List.map_cons, List.sum_cons]
    rcases List.mem_cons.1 h with rfl | h
    · omega
    · have := ih h; omega

set_option maxRecDepth 100000 in
set_option maxHeartbeats 4000000 in
theorem bytes_any (w : World) (v : Value) (ls : List (List UInt8)) (hr : RdR w w.heap.size v ls) (hsum : (ls.map List.length).sum ≤ 1048576) (hlen : ls.length ≤ 1048576) :
    Calls Try.prog 7 #[v] w fun e w' => e = .returned (.bool true) ∧ Below w.heap.size w w' := by
  obtain ⟨B, hB⟩ : ∃ B, B = w.heap.size := ⟨_, rfl⟩
  have hBw : B ≤ w.heap.size := by omega
  rw [← hB] at hr
  obtain ⟨A, c, rfl, hoc, hom, hop⟩ := hr
  unfold maxLen at hom
  obtain ⟨n, hn⟩ : ∃ n, n = ls.length := ⟨_, rfl⟩
  rw [← hn] at hoc hlen ⊢
  have HN := Lib.hid hn
  have HP := Lib.hid hop
  have HB := Lib.hid hB
  have HSUM := Lib.hid hsum
  clear hB hn hop hsum
  go_enter Try.func7, Try.ntmps7
  go_wp2_with fail
  refine (new_any _ (fun _ => False)).mono ?_
  rintro e w1 ⟨rfl, h1, hb1⟩
  obtain ⟨d, hd⟩ : ∃ d, d = w.heap.size := ⟨_, rfl⟩
  rw [← hd] at h1 hb1 hBw ⊢
  have hB1 : Below B w w1 := hb1.mono hBw
  have hs1 : B ≤ w1.heap.size := Nat.le_trans hBw (Nat.le_of_lt (h1.lt d rfl))
  have hF1 : ∀ k, (fun k => k = d) k → B ≤ k := fun k hk => by have : k = d := hk; omega
  generalize (fun k => k = d) = F1 at *
  clear hd hb1
  go_wp2_with fail
  refine (nopen_any h1 (by intro f hf; exact absurd hf (by simp))).mono ?_
  intro e w2 hq
  rw [show openN ⟨[], false, 0⟩ = (0, newM, []) from fixn1] at hq
  obtain ⟨hq1, h2, hc2⟩ := hq
  rw [if_pos rfl] at hq1
  obtain ⟨nd, rv, rfl, hnl, hn2, hor2⟩ := hq1
  have hI := NodeIn.made h2 hc2 h1.lt hn2 hnl
  have hB2 : Below B w w2 := hB1.trans (hc2.below hF1 hs1)
  have hs2 := Nat.le_trans hs1 hc2.size
  have hS2 : ∀ k, Ext F1 w1 w2 k → B ≤ k := Ext.ge hF1 hs1
  generalize Ext F1 w1 w2 = S2 at *
  obtain ⟨Ar, cr, rfl⟩ := hor2.form
  clear h1 h2 hB1 hc2 hn2 hnl hor2 hF1 hs1
  go_wp2_with fail
  refine (fixed_any _).mono ?_
  rintro e w3 ⟨rfl, hb3⟩
  have hI3 : NodeIn w3 S2 nd d 0 false (bytesM []) := hI.below hb3
  have hB3 := hB2.trans (hb3.mono hs2)
  have hs3 := Nat.le_trans hs2 hb3.size
  clear hI hB2 hb3 hs2
  go_wp2_with fail
  go_loopw [7, 8, 10, 30] (fun lv mv _ i wr => ∃ (k : Nat) (S : Nat → Prop), k ≤ n ∧ i = .int .i64 (k : Int) ∧ lv = .string ⟨(logL (ls.take k)).toArray⟩ ∧ mv = .string ⟨Array.replicate k (1 : UInt8)⟩ ∧ NodeIn wr S nd d k false (bytesM (ls.take k)) ∧ (∀ j, S j → B ≤ j) ∧ Below B w wr ∧ B ≤ wr.heap.size)
    (fun _ _ _ i _ => n - (intOf i).toNat)
  case atStart => exact ⟨0, S2, Nat.zero_le _, rfl, rfl, rfl, hI3, hS2, hB3, hs3⟩
  case round =>
    obtain ⟨k, S, hk, rfl, rfl, rfl, hI, hS, hBr, hsr⟩ := hrel
    have hst := sum_take ls k
    have hll := logL_length (ls.take k)
    have hbt := bytes_tot (ls.take k)
    have hlt' : (ls.take k).length ≤ k := List.length_take_le _ _
    have hsum' := HSUM.out
    by_cases hlt : k < n
    · have hkl : k < ls.length := by have := HN.out; omega
      obtain ⟨g, o, rfl, hgl, hcell⟩ := HP.out (by omega)
      obtain ⟨x, x0, hx⟩ := hcell k hkl
      have y0 := (hBr.cell (p := ⟨g, o + k, none⟩) hgl).trans x0
      have hrx := hx.below hBr
      have hrl := mem_len (List.getElem_mem hkl)
      have htk : ls.take (k + 1) = ls.take k ++ [ls[k]] := List.take_succ_eq_append_getElem hkl
      obtain ⟨r, hr⟩ : ∃ r, r = ls[k] := ⟨_, rfl⟩
      rw [← hr] at hrx hrl htk
      obtain ⟨Ax, cx, rfl⟩ := hrx.form
      obtain ⟨rl, hrle⟩ : ∃ rl, rl = r.length := ⟨_, rfl⟩
      have hlg : (logL (ls.take k)).length ≤ 9437184 := by omega
      have htt : totM (bytesM (ls.take k)).files ≤ 100000000 := by omega
      have hrb : rl ≤ 1048576 := by omega
      have HPUT := Lib.hid (bytes_put (ls.take k) r)
      rw [← htk] at HPUT
      have HTT := Lib.hid htt
      have HRL := Lib.hid hrle
      have HLK : Hid (logL (ls.take (k + 1)) = logL (ls.take k) ++ (be rl 8 ++ r)) := Lib.hid (by rw [htk]; simp [logL, entryN, hrle])
      have HG := Lib.hid (bytes_good (ls.take k))
      rw [← hrle] at y0 hrx
      obtain ⟨L, hL⟩ : ∃ L, L = logL (ls.take k) := ⟨_, rfl⟩
      rw [← hL] at HLK hlg ⊢
      have HL := Lib.hid hL
      clear hL hr hrle htk hrl hst hll hbt hlt' hsum' htt hcell x0 hx
      have i1 : (0 : Int) ≤ (k : Int) := by omega
      have i2 : (k : Int) < (n : Int) := by omega
      go_wp2_with fail
      refine (nput_ok hI _ r ((by have h1 := hrx.more hsr; exact h1) : Rd wr wr.heap.size _ r) (by have := HRL.out; omega) HG.out HTT.out (by omega) HPUT.out).mono ?_
      rintro e w4 ⟨rfl, hc4, hI4⟩
      have hB4 := hBr.trans (hc4.below hS hsr)
      have hs4 := Nat.le_trans hsr hc4.size
      have hS4 := Ext.ge (w' := w4) hS hsr
      generalize Ext S wr w4 = S4 at *
      have hrx4 := hrx.below (hc4.below hS hsr)
      clear hI hBr hsr hS hc4 hrx y0
      have hrd4 : Rd w4.drew B (.slice Ax rl cx) r := hrx4
      have q0 := run_str (src := 40) (dst := 9) Try.underlying40 Try.underlying5 Try.isString hrd4
      have hE : (be rl 8).length = 8 := be_length _ _
      obtain ⟨E, hE1⟩ : ∃ E, E = be rl 8 := ⟨_, rfl⟩
      rw [← hE1] at hE HLK
      have q5 : ∀ W : World, (Op.stringOp .add ⟨E.toArray⟩ ⟨r.toArray⟩).run Try.prog W = .ok (.string ⟨(E ++ r).toArray⟩) W := list_add' E r (by have := HRL.out; omega)
      have hlen2 : L.length + (E ++ r).length ≤ 9223372036854775807 := by rw [List.length_append]; have := HRL.out; omega
      obtain ⟨ER, hER⟩ : ∃ ER, ER = E ++ r := ⟨_, rfl⟩
      rw [← hER] at q5 hlen2 HLK
      have q6 : ∀ W : World, (Op.stringOp .add ⟨L.toArray⟩ ⟨ER.toArray⟩).run Try.prog W = .ok (.string ⟨(L ++ ER).toArray⟩) W := list_add' L ER hlen2
      have k1 : IntKind.u64.wrap (rl : Int) = (rl : Int) := by rw [IntKind.wrap_u64]; omega
      have HE1 := Lib.hid hE1
      have HE8 := Lib.hid hE
      have q7 : ∀ W : World, (Op.stringOp .add ⟨Array.replicate k (1 : UInt8)⟩ ⟨#[1]⟩).run Try.prog W = .ok (.string ⟨Array.replicate (k + 1) (1 : UInt8)⟩) W := rep_add k (by omega)
      have HRX4 := Lib.hid hrd4
      have HB4 := Lib.hid (hB4.drew)
      have HI4 := Lib.hid (show NodeIn w4.drew S4 nd d (k + 1) false _ from hI4)
      clear hlen2 hER hrx4 hrd4 hE hE1 hB4
      go_wp2_with fail
      go_region_held_law (fun _ => True) (trivial)
        (first
          | (go_at_call 27; go_loud (refine (N_any (.slice none 0 0) [] rl _ (Rd.nil _ _) (by omega) (by simp)).mono ?_; rintro e w5 ⟨v5, rfl, ho5, hb5⟩; have ho5' : Own w5 w4.heap.size v5 E := (by rw [HE1.out]; exact ho5); obtain ⟨A5, c5, hv5⟩ := ho5'.form' HE8.out; subst hv5; have q1 := run_str (src := 40) (dst := 9) Try.underlying40 Try.underlying5 Try.isString ho5'.rd; have q2 := run_str (src := 40) (dst := 9) Try.underlying40 Try.underlying5 Try.isString (HRX4.out.below (hb5.mono hs4)))))
      all_goals
        have hI5 := HI4.out.below hb5
        have hB5 := HB4.out.trans (hb5.mono hs4)
        have hs5 := Nat.le_trans hs4 hb5.size
        have HX := Lib.hid (And.intro hI5 (And.intro hB5 hs5))
        clear hI5 hB5 hs5 hb5 q0 q1 q2 q5 q6 ho5 ho5'
        go_wp2_with fail
        exact ⟨⟨k + 1, S4, by omega, by go_num, by rw [HLK.out], rfl, HX.out.1, hS4, HX.out.2⟩, by simp [intOf]; omega⟩
    · obtain rfl : k = n := by omega
      have hk2 : ls.take k = ls := List.take_of_length_le (by have := HN.out; omega)
      rw [hk2] at hI hll hbt
      rw [hk2]
      have hll2 : (logL ls).length ≤ 140737488355320 := by have := HN.out; omega
      have htt : totM (bytesM ls).files ≤ 1000000000 := by have := HN.out; omega
      have i2 : ¬ (k : Int) < (k : Int) := by omega
      by_cases h0 : k = 0
      · subst h0
        have hnil : ls = [] := List.eq_nil_of_length_eq_zero HN.out.symm
        subst hnil
        clear hk2 hst hll hbt hll2 htt hsum' hlt'
        obtain ⟨F, hD, hFS⟩ := hI.disk
        go_wp2_with fail
        refine (crash_any hD (.slice none 0 0) [] (rdL_nil _ _) (by simp [bytesM, newM, totM]) (by simp [bytesM, newM])).mono ?_
        rintro e w5 ⟨v5, rfl, ho5, hb5⟩
        have ho5 : OutAt w5 wr.heap.size v5 [] := ho5
        have hI5 := hI.below hb5
        have hB5 := hBr.trans (hb5.mono hsr)
        obtain ⟨A5, c5, rfl⟩ := ho5.form
        clear hI hBr hD hb5 ho5 hFS
        go_wp2_with fail
        refine (count_any hI5.node).mono ?_
        rintro e w6 ⟨rfl, rfl⟩
        go_wp2_with fail
        go_ret
        exact ⟨rfl, by rw [← HB.out]; exact hB5⟩
      · have hne : ls ≠ [] := by intro e; subst e; have := HN.out; simp at this; exact h0 this
        have heq : bytesM ls = twoM (logL ls) (List.replicate k 1) := by unfold bytesM; rw [if_neg hne, ← HN.out]
        rw [heq] at hI htt
        have h0' : ¬ ((k : Int) = 0) := by omega
        obtain ⟨L, hL⟩ : ∃ L, L = logL ls := ⟨_, rfl⟩
        rw [← hL] at hI htt hll2 ⊢
        have hfl : ∀ f ∈ (twoM L (List.replicate k 1)).files, f.data.length ≤ 140737488355320 := by
          intro f hf
          simp only [twoM, List.mem_cons, List.not_mem_nil, or_false] at hf
          rcases hf with rfl | rfl
          · exact hll2
          · simp; omega
        have HFL := Lib.hid hfl
        have HTT := Lib.hid htt
        obtain ⟨ll, hlle⟩ : ∃ ll, L.length = ll := ⟨_, rfl⟩
        have HLE := Lib.hid hlle
        clear hL hlle hk2 hst hll hbt hll2 htt hsum' hlt' hfl heq hne
        go_wp2_with fail
        refine (nread_in hI sLog HFL.out (two_read1 _ _)).mono ?_
        rintro e w5 ⟨A5, c5, rfl, ho5, hb5⟩
        have hI5 := hI.below hb5
        have hB5 := hBr.trans (hb5.mono hsr)
        have hs5 := Nat.le_trans hsr hb5.size
        clear hI hBr hb5 hsr
        rw [HLE.out] at ho5 ⊢
        go_wp2_with fail
        refine (nread_in hI5 sMarks HFL.out (two_read2 _ _)).mono ?_
        rintro e w6 ⟨A6, c6, rfl, ho6, hb6⟩
        have hI6 := hI5.below hb6
        have hB6 := hB5.trans (hb6.mono hs5)
        have hs6 := Nat.le_trans hs5 hb6.size
        have ho56 := ho5.below hb6
        clear hI5 hB5 hb6 hs5 ho5
        rw [List.length_replicate] at ho6 ⊢
        have q1 := run_str (src := 40) (dst := 9) Try.underlying40 Try.underlying5 Try.isString ho56.rd
        have q2 := run_str (src := 40) (dst := 9) Try.underlying40 Try.underlying5 Try.isString ho6.rd
        clear ho56 ho6
        obtain ⟨F, hD, hFS⟩ := hI6.disk
        rw [show (List.replicate k (1 : UInt8)).toArray = Array.replicate k 1 by simp] at q2
        go_wp2_with fail
        refine (waiting_any hD HTT.out).mono ?_
        rintro e w7 ⟨rfl, hb7⟩
        rw [two_wait]
        have hI7 := hI6.below hb7
        have hB7 := hB6.trans (hb7.mono hs6)
        clear hI6 hB6 hb7 hD hFS q1 q2
        go_wp2_with fail
        refine (count_any hI7.node).mono ?_
        rintro e w8 ⟨rfl, rfl⟩
        go_wp2_with fail
        go_ret
        exact ⟨rfl, by rw [← HB.out]; exact hB7⟩
end Go.Proofs.Ytbbpkenbeenocaa
