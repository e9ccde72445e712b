
/- The walks of node.trim and node.Open. -/
import Derived.Test.YtbbpkenbeenocaaNodeB
import Derived.Test.YtbbpkenbeenocaaDiskT
namespace Go.Proofs.Ytbbpkenbeenocaa
set_option maxRecDepth 100000
open Go Go.RowKit
set_option linter.unusedVariables false
variable {w : World} {F : Nat → Prop} {d : Nat} {m : DM}

theorem trim_any (h : DiskAt w F d m) (s : ByteArray) (there : Bool) (size keep : Nat) (hs : size ≤ 1000000000) (hk : keep ≤ 1000000000) (hlen : ∀ f ∈ m.files, f.data.length ≤ 1000000000) :
    Calls Try.prog 38 #[.pointer (some ⟨d, 0, none⟩), .string s, .bool there, .int .i64 (size : Int), .int .i64 (keep : Int)] w fun e w' =>
      e = .returned (.int .i64 (trimN m s there size keep).1) ∧ DiskAt w' F d (trimN m s there size keep).2 ∧ Chg w w' F := by
  have H0 := Lib.hid h
  have HL := Lib.hid hlen
  clear h hlen
  cases there with
  | false =>
    have e : trimN m s false size keep = (0, m) := by simp [trimN]
    rw [e]
    clear e
    go_enter Try.func38, Try.ntmps38
    go_wp2_with fail
    go_ret
    exact ⟨rfl, H0.out, Chg.refl _ _⟩
  | true =>
    by_cases hks : keep < size
    · have i1 : (keep : Int) < (size : Int) := by omega
      have HT := Lib.hid (trunc_any H0.out s (keep : Int) ⟨by omega, by omega⟩ HL.out)
      obtain ⟨x, hx⟩ : ∃ x, x = (truncM m s (keep : Int)).1 := ⟨_, rfl⟩
      obtain ⟨m1, hm1⟩ : ∃ m1, m1 = (truncM m s (keep : Int)).2 := ⟨_, rfl⟩
      by_cases hx0 : x = 0
      · have e : trimN m s true size keep = syncM m1 s := by unfold trimN; rw [if_pos rfl, if_pos hks, if_pos (by rw [← hx]; exact hx0), ← hm1]
        rw [e]
        rw [← hx, ← hm1, hx0] at HT
        clear e hx hm1 hx0
        go_enter Try.func38, Try.ntmps38
        go_wp2_with fail
        refine HT.out.mono ?_
        rintro e w1 ⟨rfl, h1, hc1⟩
        have HC := Lib.hid hc1
        clear hc1
        go_wp2_with fail
        refine (sync_any h1 s).mono ?_
        rintro e w2 ⟨rfl, h2, hc2⟩
        have HX := Lib.hid (And.intro h2 (HC.out.trans' hc2))
        clear h2 hc2
        go_wp2_with fail
        go_ret
        exact ⟨rfl, HX.out⟩
      · have e : trimN m s true size keep = (x, m1) := by
          unfold trimN; rw [if_pos rfl, if_pos hks, if_neg (by rw [← hx]; exact hx0), hx, hm1]
        rw [e]
        rw [← hx, ← hm1] at HT
        have j1 : (x != 0) = true := by simp [hx0]
        clear e hx hm1
        go_enter Try.func38, Try.ntmps38
        go_wp2_with fail
        refine HT.out.mono ?_
        rintro e w1 ⟨rfl, h1, hc1⟩
        have HX := Lib.hid (And.intro h1 hc1)
        clear h1 hc1
        go_wp2_with fail
        go_ret
        exact ⟨rfl, HX.out⟩
    · have i1 : ¬ (keep : Int) < (size : Int) := by omega
      have e : trimN m s true size keep = syncM m s := by unfold trimN; rw [if_pos rfl, if_neg hks]
      rw [e]
      clear e
      go_enter Try.func38, Try.ntmps38
      go_wp2_with fail
      refine (sync_any H0.out s).mono ?_
      rintro e w2 ⟨rfl, h2, hc2⟩
      have HX := Lib.hid (And.intro h2 hc2)
      clear h2 hc2
      go_wp2_with fail
      go_ret
      exact ⟨rfl, HX.out⟩

/-- a node: its disk, how many records, is it sick -/
def NodeIs (w : World) (nd d cnt : Nat) (bad : Bool) : Prop := w.heap[nd]? = some (.cells #[.pointer (some ⟨d, 0, none⟩), .int .i64 (cnt : Int), .bool bad] 84 (0, 0))
/-- what Open answers -/
def OpenOk (w : World) (F : Nat → Prop) (d : Nat) (r : Int × DM × List (List UInt8)) (e : Ending) (w' : World) : Prop :=
  (if r.1 = 0 then ∃ nd rv, e = .returned (.tuple #[.pointer (some ⟨nd, 0, none⟩), rv, .int .i64 0]) ∧ w.heap.size ≤ nd ∧ NodeIs w' nd d r.2.2.length false ∧ OutR w' w.heap.size rv r.2.2
   else e = .returned (.tuple #[.pointer none, .slice none 0 0, .int .i64 r.1])) ∧ DiskAt w' F d r.2.1 ∧ Chg w w' F

theorem readN_len {m : DM} {s : ByteArray} {C : Nat} (hlen : ∀ f ∈ m.files, f.data.length ≤ C) : (readN m s).1.length ≤ C := by
  unfold readN
  split
  · simp
  · split
    · simp
    · rename_i f hf
      exact hlen f (List.mem_of_getElem? hf)
theorem trimN_len {m : DM} {s : ByteArray} {t : Bool} {a b C : Nat} (hlen : ∀ f ∈ m.files, f.data.length ≤ C) : ∀ f ∈ (trimN m s t a b).2.files, f.data.length ≤ C := by
  have hmod : ∀ (g : FM → FM), (∀ f, (g f).data.length ≤ f.data.length) → ∀ (fs : List FM) (k : Nat), (∀ f ∈ fs, f.data.length ≤ C) → ∀ f ∈ fs.modify k g, f.data.length ≤ C := by
    intro g hg fs
    induction fs with
    | nil => intro k h f hf; cases k <;> simp at hf
    | cons x fs ih =>
      intro k h f hf
      cases k with
      | zero =>
        simp at hf
        rcases hf with rfl | hf
        · exact Nat.le_trans (hg _) (h x (by simp))
        · exact h f (by simp [hf])
      | succ k =>
        simp at hf
        rcases hf with rfl | hf
        · exact h _ (by simp)
        · exact ih k (fun y hy => h y (by simp [hy])) f hf
  have hsync : ∀ m : DM, (∀ f ∈ m.files, f.data.length ≤ C) → ∀ f ∈ (syncM m s).2.files, f.data.length ≤ C := by
    intro m h
    have hg := goes_files m
    unfold syncM opM
    split
    · exact h
    split
    · rw [hg]; exact h
    dsimp only
    split
    · dsimp only; rw [hg]; exact hmod (fun f => { f with safe := f.data.length }) (fun f => Nat.le_refl _) _ _ h
    · rw [hg]; exact h
  have htr : ∀ (m : DM) (n : Int), (∀ f ∈ m.files, f.data.length ≤ C) → ∀ f ∈ (truncM m s n).2.files, f.data.length ≤ C := by
    intro m n h
    have hg := goes_files m
    unfold truncM opM
    split
    · exact h
    split
    · rw [hg]; exact h
    dsimp only
    split
    · rw [hg]; exact h
    split
    · rw [hg]; exact h
    · dsimp only; rw [hg]; exact hmod _ (fun f => by simp; omega) _ _ h
  unfold trimN
  split
  · split
    · split
      · exact hsync _ (htr _ _ hlen)
      · exact htr _ _ hlen
    · exact hsync _ hlen
  · exact hlen

set_option maxHeartbeats 4000000 in
theorem nopen_any (h : DiskAt w F d m) (hlen : ∀ f ∈ m.files, f.data.length ≤ 1000000000) :
    Calls Try.prog 11 #[.pointer (some ⟨d, 0, none⟩)] w (OpenOk w F d (openN m)) := by
  have H0 := Lib.hid h
  have HL := Lib.hid hlen
  have hlt : ∀ k, F k → k < w.heap.size := h.lt
  have HLT := Lib.hid hlt
  have hll := readN_len (s := sLog) hlen
  have hml := readN_len (s := sMarks) hlen
  have HRL := Lib.hid (nread_any h sLog (fun f hf => by have := hlen f hf; omega))
  clear h hlen hlt
  by_cases ho : m.off = true
  · have e : openN m = (51, m, []) := by unfold openN; rw [if_pos ho]
    have e1 : readN m sLog = ([], false, 51) := by unfold readN; rw [if_pos ho]
    rw [e]
    rw [e1] at HRL
    clear e e1 ho hll hml
    go_enter Try.func11, Try.ntmps11
    go_wp2_with fail
    refine HRL.out.mono ?_
    rintro e w1 ⟨v1, rfl, ho1, hb1⟩
    have HX := Lib.hid (And.intro (H0.out.below hb1) (Chg.of_below hb1 F))
    clear ho1 hb1
    go_wp2_with fail
    go_ret3
    exact ⟨by rw [if_neg (show ¬ (51 : Int) = 0 by decide)] <;> rfl, HX.out⟩
  · have hrd : ∀ s, ∃ l t, readN m s = (l, t, 0) := by
      intro s
      unfold readN
      rw [if_neg ho]
      split
      · exact ⟨_, _, rfl⟩
      · exact ⟨_, _, rfl⟩
    obtain ⟨lg, lt, hlg⟩ := hrd sLog
    obtain ⟨mk, mt, hmk⟩ := hrd sMarks
    have hmle := marked_le mk
    have HS := Lib.hid (splitN_length (marked mk) lg)
    have e : openN m = (match splitN (marked mk) lg with
      | none => (52, m, [])
      | some rs => if (trimN m sMarks mt mk.length (marked mk)).1 = 0 then
          (if (trimN (trimN m sMarks mt mk.length (marked mk)).2 sLog lt lg.length (usedN rs)).1 = 0 then (0, (trimN (trimN m sMarks mt mk.length (marked mk)).2 sLog lt lg.length (usedN rs)).2, rs)
            else ((trimN (trimN m sMarks mt mk.length (marked mk)).2 sLog lt lg.length (usedN rs)).1, (trimN (trimN m sMarks mt mk.length (marked mk)).2 sLog lt lg.length (usedN rs)).2, []))
          else ((trimN m sMarks mt mk.length (marked mk)).1, (trimN m sMarks mt mk.length (marked mk)).2, [])) := by
      unfold openN
      rw [if_neg ho, hlg, hmk] <;> rfl
    rw [hlg] at hll HRL
    rw [hmk] at hml
    dsimp only at hll hml
    have HE := Lib.hid e
    have HMK := Lib.hid hmk
    clear e ho hrd hlg hmk
    obtain ⟨M, hM⟩ : ∃ M, M = marked mk := ⟨_, rfl⟩
    rw [← hM] at hmle
    have HM := Lib.hid hM
    clear hM
    go_enter Try.func11, Try.ntmps11
    go_wp2_with fail
    refine HRL.out.mono ?_
    rintro e w1 ⟨v1, rfl, ho1, hb1⟩
    obtain ⟨A1, c1, rfl⟩ := ho1.form
    have h1 := H0.out.below hb1
    go_wp2_with fail
    refine (nread_any h1 sMarks (fun f hf => by have := HL.out f hf; omega)).mono ?_
    rintro e w2 ⟨v2, rfl, ho2, hb2⟩
    rw [HMK.out] at ho2 ⊢
    have h2 := h1.below hb2
    have hq2 := below_chain hb1 hb1.size hb2
    have ho12 := ho1.below hb2
    obtain ⟨A2, c2, rfl⟩ := ho2.form
    clear h1 ho1 hb1 hb2
    dsimp only
    go_wp2_with fail
    refine (marked_any w2 _ mk ho2.rd (by omega)).mono ?_
    rintro e w3 ⟨rfl, rfl⟩
    rw [← HM.out]
    go_wp2_with fail
    refine (split_any w2 _ lg M ho12.rd hll (by omega)).mono ?_
    rintro e w3 ⟨hs3, hb3⟩
    have h3 := h2.below hb3
    have hq3 := below_chain hq2 hq2.size hb3
    clear h2 ho2 ho12
    rcases hs3 with ⟨hno, rfl⟩ | ⟨rs, rv, hso, rfl, hor⟩
    · have HX := Lib.hid (And.intro h3 (And.intro (Chg.of_below hq3 F) hno))
      clear hno h3 hq3 hq2 hb3
      go_wp2_with fail
      go_ret3
      have HE4 : openN m = (52, m, []) := by rw [HE.out, ← HM.out, HX.out.2.2]
      rw [HE4]
      exact ⟨by rw [if_neg (show ¬ (52 : Int) = 0 by decide)] <;> rfl, HX.out.1, HX.out.2.1⟩
    · obtain ⟨hrl, hru⟩ := HS.out rs (by rw [← HM.out]; exact hso)
      have hor' := hor.more hq2.size
      obtain ⟨Ar, cr, rfl⟩ := hor'.form
      have HSO := Lib.hid hso
      have HRU := Lib.hid (And.intro hrl hru)
      have HQ := Lib.hid (And.intro hq3 hor')
      obtain ⟨U, hU⟩ : ∃ U, U = usedN rs := ⟨_, rfl⟩
      rw [← hU]
      have HU := Lib.hid hU
      obtain ⟨rn, hrn⟩ : ∃ rn, rn = rs.length := ⟨_, rfl⟩
      rw [← hrn]
      have HRN := Lib.hid hrn
      clear hso hrl hru hor hor' hq3 hq2 hb3 hU hrn
      have HT1 := Lib.hid (trim_any h3 sMarks mt mk.length M hml (by omega) HL.out)
      have HE1 : Hid (openN m = if (trimN m sMarks mt mk.length M).1 = 0 then
          (if (trimN (trimN m sMarks mt mk.length M).2 sLog lt lg.length U).1 = 0 then (0, (trimN (trimN m sMarks mt mk.length M).2 sLog lt lg.length U).2, rs)
            else ((trimN (trimN m sMarks mt mk.length M).2 sLog lt lg.length U).1, (trimN (trimN m sMarks mt mk.length M).2 sLog lt lg.length U).2, []))
          else ((trimN m sMarks mt mk.length M).1, (trimN m sMarks mt mk.length M).2, [])) := Lib.hid (by rw [HE.out, ← HM.out, HSO.out, HU.out])
      have hl4 := trimN_len (s := sMarks) (t := mt) (a := mk.length) (b := M) HL.out
      have HL4 := Lib.hid hl4
      clear hl4
      generalize trimN m sMarks mt mk.length M = r1 at *
      obtain ⟨x, m1⟩ := r1
      dsimp only at HT1 HE1 HL4
      by_cases hx : x = 0
      · have HE2 : Hid (openN m = if (trimN m1 sLog lt lg.length U).1 = 0 then (0, (trimN m1 sLog lt lg.length U).2, rs)
            else ((trimN m1 sLog lt lg.length U).1, (trimN m1 sLog lt lg.length U).2, [])) := Lib.hid (by rw [HE1.out, if_pos hx])
        clear HE1
        subst hx
        go_wp2_with fail
        refine HT1.out.mono ?_
        rintro e w4 ⟨rfl, h4, hc4⟩
        have HC4 := Lib.hid hc4
        clear hc4 h3 HT1
        go_wp2_with fail
        have HT2 := Lib.hid (trim_any h4 sLog lt lg.length U hll (by have := HRU.out.2; have := HU.out; omega) HL4.out)
        generalize trimN m1 sLog lt lg.length U = r2 at *
        obtain ⟨y, m2⟩ := r2
        dsimp only at HT2 HE2
        refine HT2.out.mono ?_
        rintro e w5 ⟨rfl, h5, hc5⟩
        have HC5 := Lib.hid (HC4.out.trans' hc5)
        clear hc5 h4 HT2
        have HX : Hid (DiskAt w5 F d m2 ∧ Chg w w5 F ∧ OutR w5 w.heap.size (.slice Ar rs.length cr) rs) := Lib.hid ⟨h5, (Chg.of_below HQ.out.1 F).trans' HC5.out, HQ.out.2.keep fun k hB hk => HC5.out.block k hk fun hF => by have := HLT.out k hF; omega⟩
        by_cases hy : y = 0
        · have HE3 : Hid (openN m = (0, m2, rs)) := Lib.hid (by rw [HE2.out, if_pos hy])
          clear HE2
          subst hy
          clear h5
          go_wp2_with fail
          go_ret3
          rw [HE3.out]
          have hal : Below w5.heap.size w5 (w5.alloc (.cells #[.pointer (some ⟨d, 0, none⟩), .int .i64 (M : Int), .bool false] 84)) := (Below.refl _ _).alloc (Nat.le_refl _) _
          obtain ⟨q1, q2, q3⟩ := HX.out
          refine ⟨?_, q1.below hal, q2.trans' (Chg.of_below hal F)⟩
          rw [if_pos rfl]
          refine ⟨_, _, rfl, q2.size, ?_, ?_⟩
          · dsimp only
            rw [HRU.out.1, ← HM.out]
            exact heap_alloc_new w5 _
          · rw [HRN.out]; exact q3.below hal
        · have HE3 : Hid (openN m = (y, m2, [])) := Lib.hid (by rw [HE2.out, if_neg hy])
          have j1 : (y != 0) = true := by simp [hy]
          have HY := Lib.hid hy
          clear HE2 h5 hy
          go_wp2_with fail
          go_ret3
          rw [HE3.out]
          exact ⟨by rw [if_neg HY.out] <;> rfl, HX.out.1, HX.out.2.1⟩
      · have HE2 : Hid (openN m = (x, m1, [])) := Lib.hid (by rw [HE1.out, if_neg hx])
        have j1 : (x != 0) = true := by simp [hx]
        have HXX := Lib.hid hx
        clear HE1 hx
        go_wp2_with fail
        refine HT1.out.mono ?_
        rintro e w4 ⟨rfl, h4, hc4⟩
        have HX := Lib.hid (And.intro h4 ((Chg.of_below HQ.out.1 F).trans' hc4))
        clear hc4 h3 HT1 h4
        go_wp2_with fail
        go_ret3
        rw [HE2.out]
        exact ⟨by rw [if_neg HXX.out] <;> rfl, HX.out⟩
end Go.Proofs.Ytbbpkenbeenocaa
