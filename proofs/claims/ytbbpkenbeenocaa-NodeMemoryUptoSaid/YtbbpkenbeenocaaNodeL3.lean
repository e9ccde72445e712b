
/- The law NodeMemory, walked. -/
import Derived.Test.YtbbpkenbeenocaaNodeL1
import Derived.Deep.QuietTactic
import Derived.BigQuiet
import Derived.Deep.RegionHeldLaw
import Derived.StillTailTactics
namespace Go.Proofs.Ytbbpkenbeenocaa
open Go Go.RowKit
set_option linter.unusedVariables false
variable {w w' : World} {F S : Nat → Prop} {d : Nat} {m : DM} {B : Nat}

theorem bits_xor1 (x : UInt8) (n : Nat) (y : UInt8) (h : y.toNat = n) (hn : n < 256) : bits .xor .u8 ((x.toNat : Nat) : Int) (n : Int) = ((x.toNat ^^^ n : Nat) : Int) := bits_xor_u8_nat _ n x.toNat_lt (by omega)
theorem bval_xor (x y : UInt8) (n : Nat) (h : y.toNat = n) : bval (x ^^^ y) = .int .u8 ((x.toNat ^^^ n : Nat) : Int) := by unfold bval; rw [UInt8.toNat_xor, h]
theorem grown_set' (w : World) (g i : Nat) (u : Value) : w.grownBy (w.setCell ⟨g, i, none⟩ u) (some g) :=
  ⟨rfl, rfl, rfl, by simp [World.setCell], fun k hk hne => Below.heap_setCell w _ u k (by rintro rfl; exact hne rfl)⟩
theorem Rd.formL {v : Value} {l : List UInt8} {n : Nat} (h : Rd w B v l) (e : l.length = n) : ∃ A c, v = .slice A n c := by subst e; exact h.form
/-- two rows handed out -/
theorem OutR.two {A : Option Addr} {c : Nat} {a b : List UInt8} (h : OutR w B (.slice A 2 c) [a, b]) :
    ∃ g o x0 x1, A = some ⟨g, o, none⟩ ∧ B ≤ g ∧ g < w.heap.size ∧ w.cell? ⟨g, o, none⟩ = some x0 ∧ w.cell? ⟨g, o + 1, none⟩ = some x1 ∧ w.frozen? ⟨g, o, none⟩ = false ∧ Own w B x0 a ∧ Own w B x1 b ∧
      (∀ k, x0.ownBlock = some k → x1.ownBlock ≠ some k) ∧ (∀ k, x0.ownBlock = some k → k ≠ g) ∧ (∀ k, x1.ownBlock = some k → k ≠ g) := by
  obtain ⟨vs, hl, h, hr, hd⟩ := h
  rcases h.2 with ⟨_, h0⟩ | ⟨g, cap, cur, hv, hB, hg, hn, hm, hs, ht⟩
  · simp at h0
  · injection hv with h1 h2 h3
    subst h1; subst h3
    simp at hl
    match vs, hl with
    | [x0, x1], _ =>
      have o0 := hr 0 a x0 rfl rfl
      have o1 := hr 1 b x1 rfl rfl
      have hne : ∀ x l, Own w B x l → ∀ k, x.ownBlock = some k → k ≠ g := fun x l ho k hk e => by
        subst e
        rcases ho.2 with ⟨rfl, _⟩ | ⟨g2, cap2, cur2, rfl, _, hg2, _⟩
        · simp [Value.ownBlock] at hk
        · simp only [Value.ownBlock, Option.some.injEq] at hk
          subst hk
          rw [hg] at hg2
          injection hg2 with hg2
          injection hg2 with _ hg2 _
          exact absurd hg2 (by decide)
      have hc : ∀ i x, ([x0, x1] : List Value)[i]? = some x → w.cell? ⟨g, i, none⟩ = some x := fun i x hi => by
        rw [cell_of_row w g i cur _ (0, 0) hg, ← hi, ← ht, List.getElem?_take]
        have := (List.getElem?_eq_some_iff.1 hi).1
        simp at this
        rw [if_pos (by simp; omega)]
        simp
      refine ⟨g, 0, x0, x1, rfl, hB, blk_lt hg, hc 0 x0 rfl, hc 1 x1 rfl, blk_free hg 0, o0, o1, fun k e0 e1 => ?_, hne x0 a o0, hne x1 b o1⟩
      have := hd 0 1 x0 x1 k rfl rfl e0 e1
      omega
theorem DiskAt.grown (h : DiskAt w F d m) {row : Option Nat} (hg : w.grownBy w' row) (hn : ∀ k, row = some k → ¬ F k) : DiskAt w' F d m :=
  h.keep (G := fun k => row = some k) (Chg.of_grown hg fun k hk => hk) fun k hF hk => hn k hk hF
theorem NodeIn.grown {nd cnt : Nat} {bad : Bool} (h : NodeIn w S nd d cnt bad m) {row : Option Nat} (hg : w.grownBy w' row) (hn : ∀ k, row = some k → ¬ S k) : NodeIn w' S nd d cnt bad m :=
  h.keep (G := fun k => row = some k) (Chg.of_grown hg fun k hk => hk) fun k hS hk => hn k hk hS

theorem Own.keepB {v : Value} {l : List UInt8} (h : Own w B v l) (hk : ∀ k, B ≤ k → k < w.heap.size → w'.heap[k]? = w.heap[k]?) : Own w' B v l := by
  refine ⟨h.1, ?_⟩
  rcases h.2 with h0 | ⟨g, cap, cur, hv, hB, hg, rest⟩
  · exact .inl h0
  · exact .inr ⟨g, cap, cur, hv, hB, (hk g hB (blk_lt hg)).trans hg, rest⟩

set_option maxRecDepth 100000 in
set_option maxHeartbeats 4000000 in
theorem memory_any (w : World) (av bv : Value) (a b : List UInt8) (ha : Rd w w.heap.size av a) (hb : Rd w w.heap.size bv b) (hal : a.length ≤ 1048576) (hbl : b.length ≤ 1048576) :
    Calls Try.prog 5 #[av, bv] w fun e w' => e = .returned (.bool true) ∧ Below w.heap.size w w' := by
  obtain ⟨i0, hi, hz, hsz, hby⟩ := info_parts Try.infoByte
  obtain ⟨la, hla⟩ : ∃ la, a.length = la := ⟨_, rfl⟩
  obtain ⟨lb, hlb⟩ : ∃ lb, b.length = lb := ⟨_, rfl⟩
  have hlab : la ≤ 1048576 := by omega
  have hlbb : lb ≤ 1048576 := by omega
  obtain ⟨Aa, ca, rfl⟩ := ha.formL hla
  obtain ⟨Ab, cb, rfl⟩ := hb.formL hlb
  obtain ⟨B, hB⟩ : ∃ B, B = w.heap.size := ⟨_, rfl⟩
  rw [← hB] at ha hb ⊢
  have HLA := Lib.hid hla
  have HLB := Lib.hid hlb
  clear hla hlb
  go_enter Try.func5, Try.ntmps5
  go_wp2_with fail
  refine (fixed_any _).mono ?_
  rintro e w0 ⟨rfl, hB0⟩
  rw [← hB] at hB0
  have hs0 : B ≤ w0.heap.size := by rw [hB]; exact hB0.size
  have HB := Lib.hid hB
  clear hB
  go_wp2_with fail
  refine (new_any _ (fun _ => False)).mono ?_
  rintro e w1 ⟨rfl, h1, hb1⟩
  obtain ⟨d, hd⟩ : ∃ d, d = w0.heap.size := ⟨_, rfl⟩
  rw [← hd] at h1 hb1 hs0 ⊢
  have hB1 : Below B w w1 := hB0.trans (hb1.mono hs0)
  have hs1 : B ≤ w1.heap.size := Nat.le_trans hs0 (Nat.le_of_lt (h1.lt d rfl))
  have hF1 : ∀ k, (fun k => k = d) k → B ≤ k := fun k hk => by have : k = d := hk; omega
  generalize (fun k => k = d) = F1 at *
  clear hd hb1 hB0 hs0
  go_wp2_with fail
  refine (nopen_any h1 (by intro f hf; exact absurd hf (by simp))).mono ?_
  intro e w2 hq
  rw [show openN ⟨[], false, 0⟩ = (0, newM, []) from fixn1] at hq
  obtain ⟨hq1, h2, hc2⟩ := hq
  rw [if_pos rfl] at hq1
  obtain ⟨nd, rv, rfl, hnl, hn2, hor2⟩ := hq1
  have hI : NodeIn w2 (Ext F1 w1 w2) nd d 0 false (bytesM []) := NodeIn.made h2 hc2 h1.lt hn2 hnl
  have hB2 : Below B w w2 := hB1.trans (hc2.below hF1 hs1)
  have hs2 := Nat.le_trans hs1 hc2.size
  have hS2 : ∀ k, Ext F1 w1 w2 k → B ≤ k := Ext.ge hF1 hs1
  generalize Ext F1 w1 w2 = S2 at *
  obtain ⟨Ar, cr, rfl⟩ := hor2.form
  clear h1 h2 hB1 hc2 hn2 hnl hor2 hF1 hs1
  have hal2 : Below B w (w2.alloc (.cells #[] 5)) := hB2.alloc hs2 _
  have HSRC := Lib.hid (ha.below hal2)
  have hI2 := hI.al (.cells #[] 5)
  have HSZ := Lib.hid ((Below.refl w2.heap.size w2).alloc (Nat.le_refl _) (.cells #[] 5)).size
  have HI := Lib.hid hI
  have HS2 := Lib.hid (And.intro hS2 hI.lt)
  clear hI hI2 hal2 hS2
  go_wp2_with (at_builtin; refine wpList_append_rd rfl (.tmp 31) (.tmp 32) _ rfl i0 Try.underlying40 hi hz hsz hby rfl (own_empty w2 (Nat.le_refl _)) rfl HSRC.out (by rw [HLA.out, List.length_nil]; omega) HSZ.out ?_; intro v3 w3 ho3 hg3 _; have hb23 : Below w2.heap.size w2 w3 := Own.below_grown ((Below.refl _ _).alloc (Nat.le_refl _) _) (own_empty w2 (Nat.le_refl _)) (Nat.le_refl _) HSZ.out hg3; have ho3a : Own w3 w2.heap.size v3 a := ho3; have HV3 := Lib.hid ho3a.lt; obtain ⟨A3, c3, hv3⟩ := ho3a.form' HLA.out; subst hv3; clear ho3 hg3)
  have hI3 := HI.out.below hb23
  have hB3 := hB2.trans (hb23.mono hs2)
  have hs3 := Nat.le_trans hs2 hb23.size
  have hS23 : ∀ k, S2 k → k < w2.heap.size := HS2.out.2
  have hs23 := hb23.size
  clear hb23 hB2 HSRC
  have hra : Rd w3 w3.heap.size (.slice A3 la c3) a := ho3a.rd
  go_wp2_with fail
  refine (nput_ok hI3 _ a hra (by have := HLA.out; omega) (bytes_good []) (by have := bytes_tot []; simp at this; omega) (by omega) (bytes_put [] a)).mono ?_
  rintro e w4 ⟨rfl, hc4, hI4⟩
  have hI4 : NodeIn w4 (Ext S2 w3 w4) nd d 1 false (bytesM [a]) := hI4
  have hB4 := hB3.trans (hc4.below HS2.out.1 hs3)
  have hs4 := Nat.le_trans hs3 hc4.size
  have ho4 : Own w4 w2.heap.size (.slice A3 la c3) a := by
    refine ho3a.keepB (fun k hk hl => hc4.block k hl fun hS => ?_)
    have := hS23 k hS; omega
  have hS4 : ∀ k, Ext S2 w3 w4 k → B ≤ k := Ext.ge HS2.out.1 hs3
  have hg4 : ∀ k, (Value.slice A3 la c3).ownBlock = some k → ¬ Ext S2 w3 w4 k := fun k hk hS => by
    have := HV3.out k hk
    rcases hS with hS | hS
    · have := hS23 k hS; omega
    · omega
  have hrb4 := hb.below hB4
  have hk4 : w3.heap.size ≤ w4.heap.size := hc4.size
  generalize Ext S2 w3 w4 = S4 at *
  clear hI3 hB3 hc4 ho3a hra
  go_wp2_with fail
  refine (nput_ok hI4 _ b (hrb4.more hs4) (by have := HLB.out; omega) (bytes_good [a]) (by have h1 := bytes_tot [a]; have h2 := HLA.out; simp at h1; omega) (by omega) (bytes_put [a] b)).mono ?_
  rintro e w5 ⟨rfl, hc5, hI5⟩
  have hI5 : NodeIn w5 (Ext S4 w4 w5) nd d 2 false (bytesM [a, b]) := hI5
  have hB5 := hB4.trans (hc5.below hS4 hs4)
  have hs5 := Nat.le_trans hs4 hc5.size
  have ho5 : Own w5 w2.heap.size (.slice A3 la c3) a := by
    refine ⟨ho4.1, ?_⟩
    rcases ho4.2 with h0 | ⟨g, cap, cur, hv, hBg, hg, rest⟩
    · exact .inl h0
    · exact .inr ⟨g, cap, cur, hv, hBg, (hc5.block g (blk_lt hg) (hg4 g (by rw [hv]; rfl))).trans hg, rest⟩
  have hS5 : ∀ k, Ext S4 w4 w5 k → B ≤ k := Ext.ge hS4 hs4
  have hg5 : ∀ k, (Value.slice A3 la c3).ownBlock = some k → ¬ Ext S4 w4 w5 k := fun k hk hS => by
    have := HV3.out k hk
    rcases hS with hS | hS
    · exact hg4 k hk hS
    · omega
  generalize Ext S4 w4 w5 = S5 at *
  clear hI4 hB4 hc5 ho4 hrb4 hg4 hS4
  go_wp2_with fail
  go_loopw [10, 50] (fun _ i wr => ∃ (k : Nat) (L : List UInt8), k ≤ la ∧ i = .int .i64 (k : Int) ∧ L.length = la ∧ Own wr w2.heap.size (.slice A3 la c3) L ∧ NodeIn wr S5 nd d 2 false (bytesM [a, b]) ∧ Below B w wr ∧ B ≤ wr.heap.size)
    (fun _ i _ => la - (intOf i).toNat)
  case atStart => exact ⟨0, a, Nat.zero_le _, rfl, HLA.out, ho5, hI5, hB5, hs5⟩
  case round =>
    obtain ⟨k, L, hk, rfl, hL, ho, hI, hBr, hsr⟩ := hrel
    by_cases hlt : k < la
    · obtain ⟨g, rfl, hBg, hgl, kc, kz, hset⟩ := ho.at_ hlt (by omega)
      have hset1 := hset ((L[k]'(by omega)) ^^^ 255)
      rw [bval_xor _ 255 255 rfl] at hset1
      have hq : bits .xor .u8 (((L[k]'(by omega)).toNat : Nat) : Int) 255 = (((L[k]'(by omega)).toNat ^^^ 255 : Nat) : Int) := bits_xor_u8_nat _ 255 (L[k]'(by omega)).toNat_lt (by omega)
      have hI2 := hI.keep (G := fun j => j = g) (Chg.set wr (F := fun j => j = g) (p := ⟨g, k, none⟩) rfl (.int .u8 (((L[k]'(by omega)).toNat ^^^ 255 : Nat) : Int))) fun j hj e => by have e : j = g := e; subst e; exact hg5 j rfl hj
      have hB4 : Below B w (wr.setCell ⟨g, k, none⟩ (.int .u8 (((L[k]'(by omega)).toNat ^^^ 255 : Nat) : Int))) := hBr.setCell (p := ⟨g, k, none⟩) (by show B ≤ g; omega) _
      have HY := Lib.hid (And.intro hset1 (And.intro hI2 (And.intro hB4 (show B ≤ (wr.setCell ⟨g, k, none⟩ (.int .u8 (((L[k]'(by omega)).toNat ^^^ 255 : Nat) : Int))).heap.size by simpa [World.setCell] using hsr))))
      have i1 : (0 : Int) ≤ (k : Int) := by omega
      have i2 : (k : Int) < (la : Int) := by omega
      have i3 : (k : Int) < 1048576 := by omega
      clear hset hset1 hI2 hB4 hI hBr ho
      generalize (L[k]'(by omega)) = x at *
      go_wp2_with fail
      exact ⟨⟨k + 1, _, by omega, by go_num, by rw [List.length_set]; exact hL, HY.out⟩, by simp [intOf]; omega⟩
    · obtain rfl : la = k := by omega
      have i2 : ¬ (la : Int) < (la : Int) := by omega
      clear ho hI5 hB5 ho5
      obtain ⟨F, hD, hFS⟩ := hI.disk
      have hFB : ∀ k, F k → B ≤ k := fun k hk => hS5 k (hFS k hk)
      have hfl : ∀ f ∈ (bytesM [a, b]).files, f.data.length ≤ 1000000000 := fun f hf => by
        have h1 := totM_mem hf
        have h2 := bytes_tot [a, b]
        simp only [List.map_cons, List.map_nil, List.sum_cons, List.sum_nil, List.length_cons, List.length_nil] at h2
        have h3 := HLA.out
        have h4 := HLB.out
        omega
      have hop : openN (bytesM [a, b]) = (0, bytesM [a, b], [a, b]) := by
        have e : bytesM [a, b] = twoM (logL [a, b]) (List.replicate [a, b].length 1) := by unfold bytesM; rw [if_neg (by simp)]
        rw [e]
        exact two_open [a, b] (fun r hr => by
          have h3 := HLA.out
          have h4 := HLB.out
          simp only [List.mem_cons, List.not_mem_nil, or_false] at hr
          rcases hr with rfl | rfl <;> omega)
      have HFL := Lib.hid hfl
      have HOP := Lib.hid hop
      clear hfl hop hI hFS hg5
      go_wp2_with fail
      refine (nopen_any hD HFL.out).mono ?_
      intro e w6 hq
      rw [HOP.out] at hq
      obtain ⟨hq1, hD6, hc6⟩ := hq
      rw [if_pos rfl] at hq1
      obtain ⟨nd6, rv6, rfl, _, _, hor6⟩ := hq1
      obtain ⟨A6, c6, rfl⟩ := hor6.form
      have hor6 : OutR w6 wr.heap.size (.slice A6 2 c6) [a, b] := hor6
      have hB6 := hBr.trans (hc6.below hFB hsr)
      have hs6 := Nat.le_trans hsr hc6.size
      have hFl := hD.lt
      obtain ⟨g, o, x0, x1, rfl, hBg, hgl, k0, k1, kz, o0, o1, hx01, hx0g, hx1g⟩ := hor6.two
      obtain ⟨X0, d0, hx0e⟩ := o0.form' HLA.out
      subst hx0e
      obtain ⟨X1, d1, hx1e⟩ := o1.form' HLB.out
      subst hx1e
      have q1 : ∀ j : Nat, (convert 40 9 (.slice X0 la d0)).run Try.prog (w6.drewN j) = .ok (.string ⟨a.toArray⟩) (w6.drewN j) := fun j => run_str (w := w6.drewN j) Try.underlying40 Try.underlying5 Try.isString o0.rd
      have q2 : ∀ j : Nat, (convert 40 9 (.slice X1 lb d1)).run Try.prog (w6.drewN j) = .ok (.string ⟨b.toArray⟩) (w6.drewN j) := fun j => run_str (w := w6.drewN j) Try.underlying40 Try.underlying5 Try.isString o1.rd
      have q3 : ∀ j : Nat, (convert 40 9 (.slice Aa la ca)).run Try.prog (w6.drewN j) = .ok (.string ⟨a.toArray⟩) (w6.drewN j) := fun j => run_str (w := w6.drewN j) Try.underlying40 Try.underlying5 Try.isString ((ha.below hB6).drewN j)
      have q4 : ∀ j : Nat, (convert 40 9 (.slice Ab lb cb)).run Try.prog (w6.drewN j) = .ok (.string ⟨b.toArray⟩) (w6.drewN j) := fun j => run_str (w := w6.drewN j) Try.underlying40 Try.underlying5 Try.isString ((hb.below hB6).drewN j)
      obtain ⟨SA, hSA⟩ : ∃ SA : ByteArray, SA = ⟨a.toArray⟩ := ⟨_, rfl⟩
      obtain ⟨SB, hSB⟩ : ∃ SB : ByteArray, SB = ⟨b.toArray⟩ := ⟨_, rfl⟩
      rw [← hSA] at q1 q3
      rw [← hSB] at q2 q4
      have n1 : (SA.toList != SA.toList) = false := by simp
      have n2 : (SB.toList != SB.toList) = false := by simp
      have HX := Lib.hid (And.intro hB6 (And.intro hD6 (And.intro o0 o1)))
      have HNE := Lib.hid (And.intro hx01 (And.intro hx0g hx1g))
      have HSA := Lib.hid (And.intro hSA hSB)
      have HF := Lib.hid (And.intro hFB hFl)
      clear hB6 hD6 o0 o1 hx01 hx0g hx1g hSA hSB hor6 hc6 hD hBr hFB hFl
      go_wp2_with fail
      go_quiet (fail)
      clear q1 q2 q3 q4
      have hB7 : Below B w (w6.drewN nq) := below_drewN' HX.out.1 nq
      have hD7 : DiskAt (w6.drewN nq) F d (bytesM [a, b]) := HX.out.2.1
      have o07 : Own (w6.drewN nq) wr.heap.size (.slice X0 la d0) a := HX.out.2.2.1
      have o17 : Own (w6.drewN nq) wr.heap.size (.slice X1 lb d1) b := HX.out.2.2.2
      have k07 : (w6.drewN nq).cell? ⟨g, o, none⟩ = some (.slice X0 la d0) := k0
      have k17 : (w6.drewN nq).cell? ⟨g, o + 1, none⟩ = some (.slice X1 lb d1) := k1
      have kz7 : (w6.drewN nq).frozen? ⟨g, o, none⟩ = false := kz
      have hs7 : B ≤ (w6.drewN nq).heap.size := hs6
      have hgl7 : g < (w6.drewN nq).heap.size := hgl
      generalize w6.drewN nq = w7 at *
      clear k0 k1 kz hs6 hgl HX
      go_wp2_with fail
      obtain ⟨W0, hW0⟩ : ∃ W0, W0 = wr.heap.size := ⟨_, rfl⟩
      rw [← hW0] at HF o07 o17 hBg hsr
      clear hW0
      go_loopw [14, 95] (fun _ i wr => ∃ (k : Nat) (L : List UInt8), k ≤ la ∧ i = .int .i64 (k : Int) ∧ L.length = la ∧ Own wr W0 (.slice X0 la d0) L ∧ Own wr W0 (.slice X1 lb d1) b ∧ wr.cell? ⟨g, o, none⟩ = some (.slice X0 la d0) ∧ wr.cell? ⟨g, o + 1, none⟩ = some (.slice X1 lb d1) ∧ wr.frozen? ⟨g, o, none⟩ = false ∧ g < wr.heap.size ∧ DiskAt wr F d (bytesM [a, b]) ∧ Below B w wr ∧ B ≤ wr.heap.size)
        (fun _ i _ => la - (intOf i).toNat)
      case atStart => exact ⟨0, a, Nat.zero_le _, rfl, HLA.out, o07, o17, k07, k17, kz7, hgl7, hD7, hB7, hs7⟩
      case round =>
        clear o07 o17 k07 k17 kz7 hgl7 hD7 hB7 hs7
        obtain ⟨k, L, hk, rfl, hL, ho, ho1, k0, k1, kz, hgl, hD, hBr, hsr2⟩ := hrel
        by_cases hlt : k < la
        · obtain ⟨g0, rfl, hBg0, hgl0, kc, kz0, hset⟩ := ho.at_ hlt (by omega)
          have hg0g : g0 ≠ g := HNE.out.2.1 g0 rfl
          have hset1 := hset ((L[k]'(by omega)) ^^^ 1)
          rw [bval_xor _ 1 1 rfl] at hset1
          have hq : bits .xor .u8 (((L[k]'(by omega)).toNat : Nat) : Int) 1 = (((L[k]'(by omega)).toNat ^^^ 1 : Nat) : Int) := bits_xor_u8_nat _ 1 (L[k]'(by omega)).toNat_lt (by omega)
          obtain ⟨ws, hws⟩ : ∃ ws, ws = wr.setCell ⟨g0, k, none⟩ (.int .u8 (((L[k]'(by omega)).toNat ^^^ 1 : Nat) : Int)) := ⟨_, rfl⟩
          have hD2 : DiskAt ws F d (bytesM [a, b]) := by rw [hws]; exact hD.keep (Chg.set wr (F := fun j => j = g0) (p := ⟨g0, k, none⟩) rfl _) fun j hj e => by have e : j = g0 := e; subst e; have := HF.out.2 j hj; omega
          have hB4 : Below B w ws := by rw [hws]; exact hBr.setCell (p := ⟨g0, k, none⟩) (by show B ≤ g0; omega) _
          have ho1s : Own ws W0 (.slice X1 lb d1) b := by
            rw [hws]
            refine ho1.grown (grown_set' wr g0 k _) ?_
            exact .inr fun e => HNE.out.1 g0 rfl e
          have k0s : ws.cell? ⟨g, o, none⟩ = some (.slice (some ⟨g0, 0, none⟩) la d0) := by rw [hws]; exact (World.cell?_setCell_far wr _ _ _ hg0g).trans k0
          have k1s : ws.cell? ⟨g, o + 1, none⟩ = some (.slice X1 lb d1) := by rw [hws]; exact (World.cell?_setCell_far wr _ _ _ hg0g).trans k1
          have kzs : ws.frozen? ⟨g, o, none⟩ = false := by rw [hws, World.frozen?_setCell]; exact kz
          have hss : B ≤ ws.heap.size ∧ g < ws.heap.size := by rw [hws]; simp [World.setCell]; exact ⟨hsr2, hgl⟩
          rw [← hws] at hset1
          have HY := Lib.hid (And.intro hset1 (And.intro ho1s (And.intro k0s (And.intro k1s (And.intro kzs (And.intro hss.2 (And.intro hD2 (And.intro hB4 hss.1))))))))
          rw [hws] at HY
          have i1 : (0 : Int) ≤ (k : Int) := by omega
          have i2 : (k : Int) < (la : Int) := by omega
          have i3 : (k : Int) < 1048576 := by omega
          clear hset hset1 hD2 hB4 hD hBr ho ho1 hws ws ho1s k0s k1s kzs hss
          generalize (L[k]'(by omega)) = x at *
          go_wp2_with fail
          exact ⟨⟨k + 1, _, by omega, by go_num, by rw [List.length_set]; exact hL, HY.out⟩, by simp [intOf]; omega⟩
        · obtain rfl : la = k := by omega
          have i2 : ¬ (la : Int) < (la : Int) := by omega
          have HAPP : Hid (∀ (v8 : Value) (w8 : World), (wr.alloc (.cells (bcells [9, 9, 9]).toArray 5)).grownBy w8 (Value.slice X0 la d0).ownBlock → DiskAt (w8.setCell ⟨g, o, none⟩ v8) F d (bytesM [a, b]) ∧ Below B w (w8.setCell ⟨g, o, none⟩ v8) ∧ (w8.setCell ⟨g, o, none⟩ v8).cell? ⟨g, o + 1, none⟩ = some (.slice X1 lb d1) ∧ Own (w8.setCell ⟨g, o, none⟩ v8) W0 (.slice X1 lb d1) b ∧ w8.frozen? ⟨g, o, none⟩ = false ∧ B ≤ (w8.setCell ⟨g, o, none⟩ v8).heap.size ∧ g < (w8.setCell ⟨g, o, none⟩ v8).heap.size ∧ w8.cell? ⟨g, o, none⟩ = some (.slice X0 la d0)) := Lib.hid fun v8 w8 hg8 => by
            have hne0 : ∀ j, (Value.slice X0 la d0).ownBlock = some j → j ≠ g ∧ ¬ F j ∧ B ≤ j := fun j hj => ⟨HNE.out.2.1 j hj, fun hF => by have := HF.out.2 j hF; have := (ho.lt j hj).1; omega, by have := (ho.lt j hj).1; omega⟩
            have hgn : some g ≠ (Value.slice X0 la d0).ownBlock := fun e => (hne0 g e.symm).1 rfl
            have hga : g < (wr.alloc (.cells (bcells [9, 9, 9]).toArray 5)).heap.size := by simp; omega
            have k0a := (World.cell?_alloc_some wr ⟨g, o, none⟩ (.cells (bcells [9, 9, 9]).toArray 5) (by rw [k0]; rfl)).trans k0
            have k1a := (World.cell?_alloc_some wr ⟨g, o + 1, none⟩ (.cells (bcells [9, 9, 9]).toArray 5) (by rw [k1]; rfl)).trans k1
            have hD8 := (hD.al (.cells (bcells [9, 9, 9]).toArray 5)).grown hg8 fun j hj => (hne0 j hj).2.1
            have hB8 : Below B w w8 := (hBr.alloc (by omega) _).grown hg8 (by simp; omega) fun j hj => (hne0 j hj).2.2
            have ho8 : Own w8 W0 (.slice X1 lb d1) b := (ho1.alloc _).grown hg8 (by
              rcases hao : (Value.slice X1 lb d1).ownBlock with _ | j
              · exact .inl rfl
              · refine .inr fun e => HNE.out.1 j e.symm (by rw [hao]))
            have hz8 : w8.heap.size = (w8.setCell ⟨g, o, none⟩ v8).heap.size := by simp [World.setCell]
            refine ⟨hD8.keep (Chg.set w8 (F := fun j => j = g) (p := ⟨g, o, none⟩) rfl v8) fun j hj e => by have e : j = g := e; subst e; have := HF.out.2 j hj; omega, hB8.setCell (p := ⟨g, o, none⟩) (by show B ≤ g; omega) _, ?_, ?_, ?_, ?_, ?_, ?_⟩
            · rw [World.cell?_setCell_other _ _ _ _ (by simp), hg8.cell_far ⟨g, o + 1, none⟩ hga hgn]; exact k1a
            · refine ho8.grown (grown_set' w8 g o v8) ?_
              rcases hao : (Value.slice X1 lb d1).ownBlock with _ | j
              · exact .inl rfl
              · exact .inr fun e => by injection e with e; exact HNE.out.2.2 j hao e
            · rw [hg8.frozen_far ⟨g, o, none⟩ hga hgn, frozen?_alloc_cells]; exact kz
            · rw [← hz8]; have := hg8.size; simp at this; omega
            · rw [← hz8]; have := hg8.size; simp at this; omega
            · rw [hg8.cell_far ⟨g, o, none⟩ hga hgn]; exact k0a
          have HO := Lib.hid ho
          have HL := Lib.hid hL
          clear ho hL hD hBr ho1
          go_wp2_with (at_builtin; refine wpList_append_rd (v := Value.slice X0 la d0) rfl (.tmp 110) (.tmp 111) _ rfl i0 Try.underlying40 hi hz hsz hby rfl (HO.out.alloc _) rfl (rd_lit _ _ [9, 9, 9] 3 rfl rfl (by unfold maxLen; omega)) (by rw [HL.out]; simp; omega) (by simp; omega) ?_; intro v8 w8 ho8 hg8 _; have hap := HAPP.out v8 _ hg8; obtain ⟨hD8, hB8, k18, o18, kz8, hs8, hgl8, k08⟩ := hap; obtain ⟨A8, c8, hv8⟩ := ho8.form' (show _ = la + 3 by rw [List.length_append, HL.out]; rfl); subst hv8; clear ho8 hg8)
          obtain ⟨w9, hw9⟩ : ∃ w9, w9 = w8.setCell ⟨g, o, none⟩ (.slice A8 (la + 3) c8) := ⟨_, rfl⟩
          rw [← hw9] at hD8 hB8 k18 o18 hs8 hgl8 ⊢
          have HW9 := Lib.hid hw9
          clear k08 kz8 hw9 k0 k1 kz hgl hsr2 HAPP HO HL
          refine (nopen_any hD8 HFL.out).mono ?_
          intro e w10 hq
          rw [HOP.out] at hq
          obtain ⟨hq1, hD10, hc10⟩ := hq
          rw [if_pos rfl] at hq1
          obtain ⟨nd10, rv10, rfl, _, _, hor10⟩ := hq1
          obtain ⟨A10, c10, rfl⟩ := hor10.form
          have hor10 : OutR w10 w9.heap.size (.slice A10 2 c10) [a, b] := hor10
          have hB10 := hB8.trans (hc10.below HF.out.1 hs8)
          have hs10 := Nat.le_trans hs8 hc10.size
          have k110 := (World.cell?_of_block (a := ⟨g, o + 1, none⟩) (hc10.block g hgl8 (fun hF => by have := HF.out.2 g hF; omega))).trans k18
          have o110 := o18.chg hc10 HF.out.2
          obtain ⟨g2, o2, y0, y1, rfl, hBg2, hgl2, m0, m1, mz, p0, p1, prest⟩ := hor10.two
          obtain ⟨Y0, e0, hy0e⟩ := p0.form' HLA.out
          subst hy0e
          clear hD8 hB8 k18 o18 hs8 hD10 hc10 m1 p1 mz prest y1
          go_wp2_with fail
          refine (nopen_none w10).mono ?_
          rintro e w11 ⟨rfl, rfl⟩
          go_wp2_with fail
          have c0 : w10.drew.cell? ⟨g2, o2, none⟩ = some (.slice Y0 la e0) := m0
          have c1 : w10.drew.cell? ⟨g, o + 1, none⟩ = some (.slice X1 lb d1) := k110
          have r0 : Rd w10.drew w10.heap.size (.slice Y0 la e0) a := p0.rd
          have r1 : Rd w10.drew w10.heap.size (.slice X1 lb d1) b := o110.rd
          have r2 : Rd w10.drew B (.slice Aa la ca) a := ha.below hB10.drew
          have r3 : Rd w10.drew B (.slice Ab lb cb) b := hb.below hB10.drew
          have q1 := run_str (src := 40) (dst := 9) Try.underlying40 Try.underlying5 Try.isString r0
          have q2 := run_str (src := 40) (dst := 9) Try.underlying40 Try.underlying5 Try.isString r1
          have q3 := run_str (src := 40) (dst := 9) Try.underlying40 Try.underlying5 Try.isString r2
          have q4 := run_str (src := 40) (dst := 9) Try.underlying40 Try.underlying5 Try.isString r3
          rw [← HSA.out.1] at q1 q3
          rw [← HSA.out.2] at q2 q4
          have n3 : (SA.toList == SA.toList) = true := by simp
          have n4 : (SB.toList == SB.toList) = true := by simp
          have HB10 := Lib.hid (And.intro (show Below B w w10.drew from hB10.drew) (show B ≤ w10.drew.heap.size from hs10))
          clear r0 r1 r2 r3 hB10 m0 k110 p0 o110
          go_still_tail 24, (by kernel_rfl)
          change wpList _ _ _ _ _ w10.drew
          clear q1 q2 q3 q4 c0 c1
          generalize w10.drew = w11 at *
          go_wp2_with (first
            | (go_at_call 14; refine (nput_none _ _).mono ?_; rintro e w12 ⟨rfl, hb12⟩)
            | (go_at_call 16; refine (count_none _).mono ?_; rintro e w13 ⟨rfl, rfl⟩)
            | (go_at_call 17; refine (sick_none _).mono ?_; rintro e w14 ⟨rfl, rfl⟩))
          go_ret
          exact ⟨rfl, HB10.out.1.trans (hb12.mono HB10.out.2)⟩
end Go.Proofs.Ytbbpkenbeenocaa
