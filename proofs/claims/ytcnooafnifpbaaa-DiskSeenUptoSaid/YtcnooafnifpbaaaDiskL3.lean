/- The law DiskSeen, walked. -/
import Derived.Test.YtcnooafnifpbaaaDiskL2
import Derived.Test.YtcnooafnifpbaaaDiskL1
import Derived.Test.YtcnooafnifpbaaaDiskR
namespace Go.Proofs.Ytcnooafnifpbaaa
open Go Go.RowKit

variable {w w' : World} {F : Nat → Prop} {d : Nat} {m : DM} {B : Nat}
/-- the disk behind k pieces, of which s bytes were synced -/
def seenM (ls : List (List UInt8)) (k s : Nat) : DM := ⟨if k = 0 then [] else [⟨sF, (ls.take k).flatten, s⟩], false, 0⟩
theorem flat_take (ls : List (List UInt8)) (k : Nat) (h : k < ls.length) : (ls.take (k + 1)).flatten = (ls.take k).flatten ++ ls[k] := by
  rw [List.take_succ_eq_append_getElem h]
  simp only [List.flatten_append, List.flatten_cons, List.flatten_nil, List.append_nil]
theorem Rd.form' {v : Value} {l : List UInt8} {n : Nat} (h : Rd w B v l) (e : l.length = n) : ∃ A c, v = .slice A n c := by subst e; exact h.form
theorem seen_append (ls : List (List UInt8)) (k s : Nat) (h : k < ls.length) : appendM (seenM ls k s) sF ls[k] = (0, seenM ls (k + 1) (if k = 0 then 0 else s)) := by
  have hn : namedB sF = true := rfl
  unfold seenM
  rw [flat_take ls k h]
  by_cases h0 : k = 0
  · subst h0; simp [appendM, goesM, addM, placeF, hn]
  · simp [appendM, goesM, addM, placeF, h0]
theorem seen_sync (ls : List (List UInt8)) (k s : Nat) : syncM (seenM ls (k + 1) s) sF = (0, seenM ls (k + 1) (ls.take (k + 1)).flatten.length) := by
  simp [seenM, syncM, opM, goesM, placeF]
theorem seen_read (ls : List (List UInt8)) (k s : Nat) : readM (seenM ls (k + 1) s) sF = ((ls.take (k + 1)).flatten, 0) := by
  simp [seenM, readM, placeF]
theorem flat_le (ls : List (List UInt8)) (k : Nat) : (ls.take k).flatten.length ≤ (ls.map List.length).sum := by
  induction ls generalizing k with
  | nil => simp
  | cons x l ih =>
    rcases k with _ | k
    · simp
    · have := ih k; simp only [List.take_succ_cons, List.flatten_cons, List.length_append, List.map_cons, List.sum_cons]; omega
theorem mem_le (ls : List (List UInt8)) (k : Nat) (h : k < ls.length) : ls[k].length ≤ (ls.map List.length).sum := by
  have := flat_le ls (k + 1)
  rw [flat_take ls k h, List.length_append] at this
  omega
theorem seen_files (ls : List (List UInt8)) (k s : Nat) : (seenM ls k s).files.length ≤ 1 ∧ ∀ f ∈ (seenM ls k s).files, f.data.length ≤ (ls.map List.length).sum := by
  unfold seenM
  by_cases h : k = 0
  · simp [h]
  · simp only [if_neg h]
    refine ⟨by simp, fun f hf => ?_⟩
    simp only [List.mem_cons, List.not_mem_nil, or_false] at hf
    subst hf
    exact flat_le ls k
theorem seen_tot (ls : List (List UInt8)) (k s : Nat) : totM (seenM ls k s).files ≤ (ls.map List.length).sum := by
  unfold seenM totM
  by_cases h : k = 0
  · simp [h]
  · simp only [if_neg h]; simpa using flat_le ls k
theorem seen_wait (ls : List (List UInt8)) (k s : Nat) : waitM (seenM ls k s).files ≤ (ls.take k).flatten.length := by
  unfold seenM waitM
  by_cases h : k = 0
  · simp [h]
  · simp [h]

set_option maxHeartbeats 2000000 in
theorem seen_any (w : World) (pv sv : Value) (ls : List (List UInt8)) (sy : List Bool) (hp : RdR w w.heap.size pv ls) (hs : RdL w w.heap.size sv sy) (hll : ls.length ≤ 1048576) (hsum : (ls.map List.length).sum ≤ 1048576) :
    Calls Try.prog 9 #[pv, sv] w fun e w' => e = .returned (.bool true) ∧ Below w.heap.size w w' := by
  obtain ⟨AP, cp, rfl, hpc, hpm, hpp⟩ := hp
  obtain ⟨AS, cs, rfl, hsc, hsm, hsp⟩ := hs
  unfold maxLen at hpm hsm
  obtain ⟨n, hn⟩ : ∃ n, n = ls.length := ⟨_, rfl⟩
  obtain ⟨ns, hns⟩ : ∃ ns, ns = sy.length := ⟨_, rfl⟩
  rw [← hn] at hpc hll ⊢
  rw [← hns] at hsc ⊢
  obtain ⟨B, hB⟩ : ∃ B, B = w.heap.size := ⟨_, rfl⟩
  rw [← hB] at hpp hsp
  have HPP := Lib.hid hpp
  have HSP := Lib.hid hsp
  have HN := Lib.hid hn
  have HNS := Lib.hid hns
  have HB := Lib.hid hB
  clear hn hns hpp hsp
  go_enter Try.func9, Try.ntmps9
  go_wp2_with fail
  refine (new_any _ (fun _ => False)).mono ?_
  rintro e w1 ⟨rfl, h1, hB1⟩
  rw [← hB] at h1 hB1 ⊢
  clear hB
  have hs1 : B ≤ w1.heap.size := Nat.le_of_lt (h1.lt B rfl)
  have hF1 : ∀ k, (fun k => k = B) k → B ≤ k := fun k hk => Nat.le_of_eq hk.symm
  generalize (fun k => k = B) = F1 at *
  go_wp2_with fail
  refine (fixed_any _).mono ?_
  rintro e w2 ⟨rfl, hb2⟩
  have h2 : DiskAt w2 F1 B (seenM ls 0 0) := h1.below hb2
  have hB2 := hB1.trans (hb2.mono hs1)
  have hs2 := Nat.le_trans hs1 hb2.size
  clear h1 hB1 hb2 hs1
  go_wp2_with fail
  go_loopw [6, 20] (fun av i wr => ∃ (k s : Nat) (F : Nat → Prop), k ≤ n ∧ i = .int .i64 (k : Int) ∧ av = .string ⟨((ls.take k).flatten).toArray⟩ ∧ DiskAt wr F B (seenM ls k s) ∧ (∀ k, F k → B ≤ k) ∧ Below B w wr ∧ B ≤ wr.heap.size)
    (fun _ i _ => n - (intOf i).toNat)
  case atStart => exact ⟨0, 0, F1, Nat.zero_le _, rfl, rfl, h2, hF1, hB2, hs2⟩
  case round =>
    obtain ⟨k, s, F, hk, rfl, rfl, hD, hF, hBr, hsr⟩ := hrel
    by_cases hlt : k < n
    · have hkl : k < ls.length := by have := HN.out; omega
      obtain ⟨g, o, rfl, hgl, hcell⟩ := HPP.out (by omega)
      obtain ⟨x, hx, hxr⟩ := hcell k hkl
      have cx := (hBr.cell (p := ⟨g, o + k, none⟩) hgl).trans hx
      have hml := mem_le ls k hkl
      have i1 : (0 : Int) ≤ (k : Int) := by omega
      have i2 : (k : Int) < (n : Int) := by omega
      have hft := flat_take ls k hkl
      have hfl := flat_le ls k
      have hsa := seen_append ls k s hkl
      obtain ⟨p, hpe⟩ : ∃ p, p = ls[k] := ⟨_, rfl⟩
      rw [← hpe] at hxr hml hft hsa
      obtain ⟨lp, hlp⟩ : ∃ lp, lp = p.length := ⟨_, rfl⟩
      obtain ⟨Ax, cxp, rfl⟩ := hxr.form' hlp.symm
      obtain ⟨q, hq⟩ : ∃ q, q = (ls.take k).flatten := ⟨_, rfl⟩
      obtain ⟨q', hq'⟩ : ∃ q', q' = (ls.take (k + 1)).flatten := ⟨_, rfl⟩
      rw [← hq] at hft hfl ⊢
      rw [← hq'] at hft
      have hfl' := flat_le ls (k + 1)
      rw [← hq'] at hfl'
      have HFT := Lib.hid hft
      have HQ' := Lib.hid hq'
      have HSA := Lib.hid hsa
      have HLP := Lib.hid hlp
      clear hcell hx hpe hft hq hsa hlp hq'
      go_wp2_with fail
      refine (append_any hD sF (by decide) p _ (RdF.old (hxr.below hBr) hsr hF) (fun f hf => by have := (seen_files ls k s).2 f hf; omega) (by omega) (by have := (seen_files ls k s).1; omega)).mono ?_
      rintro e w4 ⟨rfl, h4, hc4⟩
      rw [HSA.out] at h4 ⊢
      obtain ⟨hF4, hB4, hs4⟩ := DiskAt.next hF hBr hsr hc4
      generalize Ext F _ w4 = F4 at *
      clear hc4 hD hF hBr hsr cx
      have HCONV : Hid (∀ W : World, Below B w W → (convert 32 9 (.slice Ax lp cxp)).run Try.prog W = .ok (.string ⟨p.toArray⟩) W) := Lib.hid fun W hW => run_str Try.underlying32 Try.underlying5 Try.isString (hxr.below hW)
      have HADD : Hid (∀ W : World, (Op.stringOp .add ⟨q.toArray⟩ ⟨p.toArray⟩).run Try.prog W = .ok (.string ⟨q'.toArray⟩) W) := Lib.hid fun W => by rw [HFT.out]; exact list_add' q p (by omega) W
      have HREAD : Hid (∀ s, readM (seenM ls (k + 1) s) sF = (q', 0)) := Lib.hid fun s => by rw [seen_read, ← HQ'.out]
      by_cases hks : k < ns
      · obtain ⟨g2, o2, rfl, hg2, hcell2⟩ := HSP.out (by have := HNS.out; omega)
        have hky : k < sy.length := by have := HNS.out; omega
        have cy := (hB4.cell (p := ⟨g2, o2 + k, none⟩) hg2).trans (hcell2 k hky)
        have i3 : (k : Int) < (ns : Int) := by omega
        clear hcell2
        cases hyv : sy[k] with
        | false =>
          rw [hyv] at cy
          clear hyv
          have qc := HCONV.out _ hB4
          have qa := HADD.out
          go_wp2_with fail
          clear qc qa
          refine (read_any h4 sF (fun f hf => by have := (seen_files ls (k + 1) _).2 f hf; omega)).mono ?_
          rintro e w6 ⟨v6, rfl, ho6, hb6⟩
          rw [HREAD.out] at ho6 ⊢
          have ho6 : Own w6 w4.heap.size v6 q' := ho6
          obtain ⟨A6, c6, rfl⟩ := ho6.form
          have qs := run_str (w := w6) (src := 32) (dst := 9) Try.underlying32 Try.underlying5 Try.isString ho6.rd
          have HX := Lib.hid (And.intro (h4.below hb6) (And.intro hF4 (And.intro (hB4.trans (hb6.mono hs4)) (Nat.le_trans hs4 hb6.size))))
          clear ho6 hb6 h4 hB4 hs4 hF4
          go_wp2_with fail
          exact ⟨⟨k + 1, _, _, by omega, by go_num, by rw [HQ'.out], HX.out⟩, by simp [intOf]; omega⟩
        | true =>
          rw [hyv] at cy
          clear hyv
          go_wp2_with fail
          refine (sync_any h4 sF).mono ?_
          rintro e w5 ⟨rfl, h5, hc5⟩
          rw [seen_sync] at h5 ⊢
          have hB5 := hB4.trans (hc5.below hF4 hs4)
          have hs5 := Nat.le_trans hs4 hc5.size
          clear hc5 cy
          have qc := HCONV.out _ hB5
          have qa := HADD.out
          go_wp2_with fail
          clear qc qa
          refine (read_any h5 sF (fun f hf => by have := (seen_files ls (k + 1) _).2 f hf; omega)).mono ?_
          rintro e w6 ⟨v6, rfl, ho6, hb6⟩
          rw [HREAD.out] at ho6 ⊢
          have ho6 : Own w6 w5.heap.size v6 q' := ho6
          obtain ⟨A6, c6, rfl⟩ := ho6.form
          have qs := run_str (w := w6) (src := 32) (dst := 9) Try.underlying32 Try.underlying5 Try.isString ho6.rd
          have HX := Lib.hid (And.intro (h5.below hb6) (And.intro hF4 (And.intro (hB5.trans (hb6.mono hs5)) (Nat.le_trans hs5 hb6.size))))
          clear ho6 hb6 h5 hB5 hs5 hF4
          go_wp2_with fail
          exact ⟨⟨k + 1, _, _, by omega, by go_num, by rw [HQ'.out], HX.out⟩, by simp [intOf]; omega⟩
      · have i3 : decide ((k : Int) < (ns : Int)) = false := by simp; omega
        have i4 : decide (k < ns) = false := by simp; omega
        have qc := HCONV.out _ hB4
        have qa := HADD.out
        go_wp2_with fail
        clear qc qa
        refine (read_any h4 sF (fun f hf => by have := (seen_files ls (k + 1) _).2 f hf; omega)).mono ?_
        rintro e w6 ⟨v6, rfl, ho6, hb6⟩
        rw [HREAD.out] at ho6 ⊢
        have ho6 : Own w6 w4.heap.size v6 q' := ho6
        obtain ⟨A6, c6, rfl⟩ := ho6.form
        have qs := run_str (w := w6) (src := 32) (dst := 9) Try.underlying32 Try.underlying5 Try.isString ho6.rd
        have HX := Lib.hid (And.intro (h4.below hb6) (And.intro hF4 (And.intro (hB4.trans (hb6.mono hs4)) (Nat.le_trans hs4 hb6.size))))
        clear ho6 hb6 h4 hB4 hs4 hF4
        go_wp2_with fail
        exact ⟨⟨k + 1, _, _, by omega, by go_num, by rw [HQ'.out], HX.out⟩, by simp [intOf]; omega⟩
    · obtain rfl : k = n := by omega
      have i2 : ¬ (k : Int) < (k : Int) := by omega
      have hw1 := seen_wait ls k s
      have ht := seen_tot ls k s
      have hfl := flat_le ls k
      generalize (ls.take k).flatten = q at *
      go_wp2_with fail
      refine (waiting_any hD (by omega)).mono ?_
      rintro e w5 ⟨rfl, hb5⟩
      obtain ⟨z, hz⟩ : ∃ z, z = waitM (seenM ls k s).files := ⟨_, rfl⟩
      rw [← hz] at hw1 ⊢
      clear hz
      have HX := Lib.hid (hBr.trans (hb5.mono hsr))
      clear hb5 hBr hD
      have hz1 : (z : Int) ≤ (q.length : Int) := by omega
      go_wp2_with fail
      go_ret
      exact ⟨rfl, by rw [← HB.out]; exact HX.out⟩
end Go.Proofs.Ytcnooafnifpbaaa
