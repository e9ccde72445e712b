/- The law DiskMemory, walked. -/
import Derived.Test.YtcnooafnifpbaaaDiskQ
import Derived.Test.YtcnooafnifpbaaaDiskO
import Derived.Test.YtcnooafnifpbaaaDiskL1
namespace Go.Proofs.Ytcnooafnifpbaaa
open Go Go.RowKit

variable {w w' : World} {F : Nat → Prop} {d : Nat} {m : DM} {B : Nat}
def sG : ByteArray := ⟨#[103]⟩
def memM (b : List UInt8) : DM := ⟨[⟨sF, b, b.length⟩, ⟨sG, b, 0⟩], false, 0⟩
theorem mem1 (b : List UInt8) : loadL [(sF, b)] [] = some [⟨sF, b, b.length⟩] := rfl
theorem mem2 (b : List UInt8) : appendM ⟨[⟨sF, b, b.length⟩], false, 0⟩ sG b = (0, memM b) := rfl
theorem mem3 (b : List UInt8) : readM (memM b) sF = (b, 0) := rfl
theorem mem4 (b : List UInt8) : readM (memM b) sG = (b, 0) := rfl
theorem mem5 (b : List UInt8) : crashM (memM b).files [] = [(sF, remM ⟨sF, b, b.length⟩ []), (sG, remM ⟨sG, b, 0⟩ [])] := by simp [crashM, memM]
theorem memF (b : List UInt8) (h : b.length ≤ 1048576) : ∀ f ∈ (memM b).files, f.data.length ≤ 140737488355320 := by
  intro f hf
  simp only [memM, List.mem_cons, List.not_mem_nil, or_false] at hf
  rcases hf with rfl | rfl <;> (show b.length ≤ _; omega)
theorem grown_set' (w : World) (g i : Nat) (u : Value) : w.grownBy (w.setCell ⟨g, i, none⟩ u) (some g) :=
  ⟨rfl, rfl, rfl, by simp [World.setCell], fun k hk hne => Below.heap_setCell w _ u k (by rintro rfl; exact hne rfl)⟩
theorem bval_xor (x y : UInt8) (n : Nat) (h : y.toNat = n) : bval (x ^^^ y) = .int .u8 ((x.toNat ^^^ n : Nat) : Int) := by unfold bval; rw [UInt8.toNat_xor, h]

set_option maxRecDepth 100000 in
set_option maxHeartbeats 4000000 in
theorem memory_any (w : World) (bv : Value) (b : List UInt8) (hb : Rd w w.heap.size bv b) (hbl : b.length ≤ 1048576) :
    Calls Try.prog 5 #[bv] w fun e w' => e = .returned (.bool true) ∧ Below w.heap.size w w' := by
  obtain ⟨i0, hi, hz, hsz, hby⟩ := info_parts Try.infoByte
  obtain ⟨n, hn⟩ : ∃ n, b.length = n := ⟨_, rfl⟩
  have hnb : n ≤ 1048576 := by omega
  obtain ⟨Ab, cb, rfl⟩ := hb.form2 hn
  obtain ⟨B, hB⟩ : ∃ B, B = w.heap.size := ⟨_, rfl⟩
  rw [← hB] at hb ⊢
  have HN := Lib.hid hn
  clear hn
  go_enter Try.func5, Try.ntmps5
  go_wp2_with fail
  refine (fixed_any _).mono ?_
  rintro e w0 ⟨rfl, hB0⟩
  rw [← hB] at hB0
  have hs0 : B ≤ w0.heap.size := by rw [hB]; exact hB0.size
  have hBw : B ≤ w.heap.size := by omega
  clear hB
  have hal : Below B w (w0.alloc (.cells #[] 5)) := hB0.alloc hs0 _
  have HSRC := Lib.hid (hb.below hal)
  go_wp2_with (at_builtin; refine wpList_append_rd rfl (.tmp 21) (.tmp 22) _ rfl i0 Try.underlying32 hi hz hsz hby rfl (own_empty w0 (Nat.le_refl _)) rfl HSRC.out (by simp; omega) (by simp) ?_; intro v1 w1 ho1 hg1 _; have ho1' : Own w1 w0.heap.size v1 b := ho1; have hB1 : Below B w w1 := hal.trans ((Own.below_grown (Below.refl _ _) (own_empty w0 (Nat.le_refl _)) (Nat.le_refl _) (by simp) hg1).mono hs0); have hs1 : w0.heap.size ≤ w1.heap.size := Nat.le_trans (by simp) hg1.size; have HV1 := Lib.hid ho1'.lt; obtain ⟨A1, c1, hv1e⟩ := ho1'.form' HN.out; subst hv1e; clear ho1 hg1)
  have hv1 := HV1.out
  clear hal HSRC
  have hRF : RdFs (w1.alloc (.cells #[.string ⟨#[102]⟩, .slice A1 n c1] 48)) (w1.alloc (.cells #[.string ⟨#[102]⟩, .slice A1 n c1] 48)).heap.size (.slice (some ⟨w1.heap.size, 0, none⟩) 1 1) [(sF, b)] := by
    have hbk := heap_alloc_new w1 (.cells #[.string ⟨#[102]⟩, .slice A1 n c1] 48)
    refine ⟨_, 1, rfl, Nat.le_refl _, by simp [maxLen], fun _ => ⟨w1.heap.size, 0, rfl, by simp, fun j hj => ?_⟩⟩
    obtain rfl : j = 0 := by simpa using hj
    exact ⟨blk_cell hbk 0, _, blk_cell hbk 1, (ho1'.rd.below ((Below.refl _ _).alloc (Nat.le_refl _) _)).more (by simp)⟩
  have hBa : Below B w (w1.alloc (.cells #[.string ⟨#[102]⟩, .slice A1 n c1] 48)) := hB1.alloc (by omega) _
  have hoa := ho1'.alloc (.cells #[.string ⟨#[102]⟩, .slice A1 n c1] 48)
  obtain ⟨B2, hB2⟩ : ∃ B2, B2 = (w1.alloc (.cells #[.string ⟨#[102]⟩, .slice A1 n c1] 48)).heap.size := ⟨_, rfl⟩
  have hv2 : ∀ k, (Value.slice A1 n c1).ownBlock = some k → w0.heap.size ≤ k ∧ k < B2 := fun k hk => ⟨(hv1 k hk).1, by rw [hB2]; simp; have := (hv1 k hk).2; omega⟩
  have hBB : w0.heap.size ≤ B2 := by rw [hB2]; simp; omega
  refine (load_some _ _ [(sF, b)] hRF (by simp; omega) (by intro f hf; simp at hf; subst hf; show sF.size ≤ maxLen; decide) _ (mem1 b) (by simp)).mono ?_
  rintro e w2 ⟨d, rfl, ⟨F2, h2, hF2⟩, hb2⟩
  rw [← hB2] at hF2 hb2
  have hB2w : Below B w w2 := hBa.trans (hb2.mono (by omega))
  have hs2 : B2 ≤ w2.heap.size := by rw [hB2]; exact hb2.size
  have ho2 : Own w2 w0.heap.size (.slice A1 n c1) b := hoa.below (by rw [← hB2]; exact hb2)
  have hr2 : RdF w2 F2 (.slice A1 n c1) b := ⟨ho2.rd, fun k _ hk hF => by have := hF2 k hF; have := (hv2 k hk).2; omega⟩
  clear hRF hBa hoa hb2 hB1 hv1 hB2
  go_wp2_with fail
  refine (append_any h2 sG (by decide) b _ hr2 (by simp; omega) (by omega) (by simp)).mono ?_
  rintro e w3 ⟨rfl, h3, hc3⟩
  rw [mem2] at h3 ⊢
  have hF3 := Ext.ge (w' := w3) hF2 hs2
  have hB3 : Below B w w3 := hB2w.trans (hc3.below (fun k hk => by have := hF2 k hk; omega) (by omega))
  have hs3 : B2 ≤ w3.heap.size := Nat.le_trans hs2 hc3.size
  have ho3 : Own w3 w0.heap.size (.slice A1 n c1) b := by
    refine ⟨ho2.1, ?_⟩
    rcases ho2.2 with h0 | ⟨g, cap, cur, hv, hBg, hg, rest⟩
    · exact .inl h0
    · refine .inr ⟨g, cap, cur, hv, hBg, (hc3.block g (blk_lt hg) fun hF => ?_).trans hg, rest⟩
      have := hF2 g hF
      have := (hv2 g (by rw [hv]; rfl)).2
      omega
  generalize Ext F2 w2 w3 = F3 at *
  clear h2 hc3 ho2 hr2 hB2w hs2 hF2
  go_wp2_with fail
  go_loopw [6, 45] (fun _ i wr => ∃ (k : Nat) (L : List UInt8), k ≤ n ∧ i = .int .i64 (k : Int) ∧ L.length = n ∧ Own wr w0.heap.size (.slice A1 n c1) L ∧ DiskAt wr F3 d (memM b) ∧ Below B w wr ∧ B2 ≤ wr.heap.size)
    (fun _ i _ => n - (intOf i).toNat)
  case atStart => exact ⟨0, b, Nat.zero_le _, rfl, HN.out, ho3, h3, hB3, hs3⟩
  case round =>
    obtain ⟨k, L, hk, rfl, hL, ho, hD, hBr, hsr⟩ := hrel
    by_cases hlt : k < n
    · obtain ⟨g, rfl, hBg, hgl, kc, kz, hset⟩ := ho.at_ hlt (by omega)
      have hgF : ∀ j, F3 j → ¬ j = g := fun j hj e => by have := hF3 j hj; have := (hv2 g rfl).2; omega
      have hset1 := hset ((L[k]'(by omega)) ^^^ 255)
      rw [bval_xor _ 255 255 rfl] at hset1
      have hq : bits .xor .u8 (((L[k]'(by omega)).toNat : Nat) : Int) 255 = (((L[k]'(by omega)).toNat ^^^ 255 : Nat) : Int) := bits_xor_u8_nat _ 255 (L[k]'(by omega)).toNat_lt (by omega)
      have hD2 : DiskAt (wr.setCell ⟨g, k, none⟩ (.int .u8 (((L[k]'(by omega)).toNat ^^^ 255 : Nat) : Int))) F3 d (memM b) := hD.keep (Chg.set wr (F := fun j => j = g) (p := ⟨g, k, none⟩) rfl _) hgF
      have hB4 : Below B w (wr.setCell ⟨g, k, none⟩ (.int .u8 (((L[k]'(by omega)).toNat ^^^ 255 : Nat) : Int))) := hBr.setCell (p := ⟨g, k, none⟩) (by show B ≤ g; omega) _
      have HY := Lib.hid (And.intro hset1 (And.intro hD2 (And.intro hB4 (show B2 ≤ (wr.setCell ⟨g, k, none⟩ (.int .u8 (((L[k]'(by omega)).toNat ^^^ 255 : Nat) : Int))).heap.size by simpa [World.setCell] using hsr))))
      have i1 : (0 : Int) ≤ (k : Int) := by omega
      have i2 : (k : Int) < (n : Int) := by omega
      have i3 : (k : Int) < 1048576 := by omega
      clear hset hset1 hD2 hB4 hD hBr ho 
      generalize (L[k]'(by omega)) = x at *
      go_wp2_with fail
      exact ⟨⟨k + 1, _, by omega, by go_num, by rw [List.length_set]; exact hL, HY.out⟩, by simp [intOf]; omega⟩
    · obtain rfl : n = k := by omega
      have i2 : ¬ (n : Int) < (n : Int) := by omega
      go_wp2_with fail
      refine (read_any hD sF (memF b hbl)).mono ?_
      rintro e w4 ⟨v4, rfl, ho4, hb4⟩
      rw [mem3] at ho4 ⊢
      have ho4 : Own w4 wr.heap.size v4 b := ho4
      have hD4 := hD.below hb4
      have hB4 := hBr.trans (hb4.mono (by omega))
      have hs4 := Nat.le_trans hsr hb4.size
      have hFr := hD.lt
      have hbx4 := hb4.size
      have hv4 := Lib.hid ho4.lt
      obtain ⟨A4, c4, rfl⟩ := ho4.form' HN.out
      clear hD hBr ho hb4
      go_wp2_with fail
      refine (read_any hD4 sG (memF b hbl)).mono ?_
      rintro e w5 ⟨v5, rfl, ho5, hb5⟩
      rw [mem4] at ho5 ⊢
      have ho5 : Own w5 w4.heap.size v5 b := ho5
      have hD5 := hD4.below hb5
      have hB5 := hB4.trans (hb5.mono (by omega))
      have hs5 := Nat.le_trans hs4 hb5.size
      have ho45 := ho4.below hb5
      have hb5s := hb5.size
      obtain ⟨A5, c5, rfl⟩ := ho5.form' HN.out
      clear hD4 hB4 hb5 ho4
      go_wp2_with fail
      refine (crash_any hD5 (.slice none 0 0) [] ⟨none, 0, rfl, by simp, by simp [maxLen], fun h => absurd h (by simp)⟩ (by simp [totM, memM]; omega) (by simp [memM])).mono ?_
      rintro e w6 ⟨v6, rfl, ho6, hb6⟩
      rw [mem5] at ho6
      have hD6 := hD5.below hb6
      have hB6 := hB5.trans (hb6.mono (by omega))
      have hs6 := Nat.le_trans hs5 hb6.size
      have ho46 := ho45.below hb6
      have ho56 := ho5.below hb6
      obtain ⟨A6, c6, rfl⟩ := ho6.form
      obtain ⟨g6, o6, dv6, rfl, hg6, _, k6, hd6⟩ := ho6.at_ 0 (by simp)
      simp at k6 hd6
      have hl6 := remM_le ⟨sF, b, b.length⟩ [] (by simp)
      have hw6 := ho6.lt g6 rfl
      generalize remM ⟨sF, b, b.length⟩ [] = R6 at *
      obtain ⟨m6, hm6⟩ : ∃ m6, R6.length = m6 := ⟨_, rfl⟩
      have hm6b : m6 ≤ 1048576 := by rw [← hm6]; exact Nat.le_trans hl6 hbl
      have hv6 := Lib.hid hd6.lt
      have hne6 : ∀ j, dv6.ownBlock = some j → j ≠ g6 := fun j hj e => by
        subst e
        obtain ⟨dvs, _, hrow, _⟩ := ho6
        rcases hrow.2 with ⟨e, _⟩ | ⟨g, cap, cur, e, _, hgg, _⟩
        · cases e
        · injection e with e
          injection e with e1
          injection e1 with e1
          subst e1
          exact hd6.dat.ne hgg (by decide) hj
      obtain ⟨Ad, cd, rfl⟩ := hd6.form' hm6
      have q1 := run_str (w := w6) (src := 32) (dst := 9) Try.underlying32 Try.underlying5 Try.isString ho46.rd
      have q2 := run_str (w := w6) (src := 32) (dst := 9) Try.underlying32 Try.underlying5 Try.isString ho56.rd
      have q3 := run_str (w := w6) (src := 32) (dst := 9) Try.underlying32 Try.underlying5 Try.isString (hb.below hB6)
      have HNE6 := Lib.hid hne6
      have HM6 := Lib.hid hm6
      clear hD5 hB5 hb6 ho45 ho5 ho6 ho56 hl6 hne6 hm6
      obtain ⟨Bx, hBx⟩ : ∃ Bx, Bx = wr.heap.size := ⟨_, rfl⟩
      obtain ⟨B6, hB6e⟩ : ∃ B6, B6 = w5.heap.size := ⟨_, rfl⟩
      rw [← hBx] at hFr ho46 hv4 hsr
      rw [← hB6e] at hd6 hv6 hw6 hb5s
      rw [← hBx] at hbx4
      clear hBx hB6e
      go_wp2_with fail
      clear q1 q2 q3
      obtain ⟨wo, rfl⟩ : ∃ wo : World, wo = wr := ⟨_, rfl⟩
      go_loopw [12, 86] (fun _ i wr => ∃ (k : Nat) (L : List UInt8), k ≤ n ∧ i = .int .i64 (k : Int) ∧ L.length = n ∧ Own wr Bx (.slice A4 n c4) L ∧ DiskAt wr F3 d (memM b) ∧ Below B w wr ∧ wr.cell? ⟨g6, o6 + 1, none⟩ = some (.slice Ad m6 cd) ∧ Own wr B6 (.slice Ad m6 cd) R6 ∧ w6.heap.size ≤ wr.heap.size)
        (fun _ i _ => n - (intOf i).toNat)
      case atStart => exact ⟨0, b, Nat.zero_le _, rfl, HN.out, ho46, hD6, hB6, k6, hd6, Nat.le_refl _⟩
      case round =>
        obtain ⟨k, L, hk, rfl, hL, ho, hD, hBr, k6', hd6', hszz⟩ := hrel
        by_cases hlt : k < n
        · obtain ⟨g, rfl, hBg, hgl, kc, kz, hset⟩ := ho.at_ hlt (by omega)
          have hgw : g < w4.heap.size := (hv4.out g rfl).2
          have hg6ne : g ≠ g6 := by have := hw6.1; omega
          have hgF : ∀ j, F3 j → ¬ j = g := fun j hj e => by have := hFr j hj; omega
          have hset1 := hset ((L[k]'(by omega)) ^^^ 7)
          rw [bval_xor _ 7 7 rfl] at hset1
          have hq : bits .xor .u8 (((L[k]'(by omega)).toNat : Nat) : Int) 7 = (((L[k]'(by omega)).toNat ^^^ 7 : Nat) : Int) := bits_xor_u8_nat _ 7 (L[k]'(by omega)).toNat_lt (by omega)
          obtain ⟨ws, hws⟩ : ∃ ws, ws = wr.setCell ⟨g, k, none⟩ (.int .u8 (((L[k]'(by omega)).toNat ^^^ 7 : Nat) : Int)) := ⟨_, rfl⟩
          have hD2 : DiskAt ws F3 d (memM b) := by rw [hws]; exact hD.keep (Chg.set wr (F := fun j => j = g) (p := ⟨g, k, none⟩) rfl _) hgF
          have hB4 : Below B w ws := by rw [hws]; exact hBr.setCell (p := ⟨g, k, none⟩) (by show B ≤ g; omega) _
          have hk6 : ws.cell? ⟨g6, o6 + 1, none⟩ = some (.slice Ad m6 cd) := by rw [hws]; exact (World.cell?_setCell_far wr _ _ _ hg6ne).trans k6'
          have hd6s : Own ws B6 (.slice Ad m6 cd) R6 := by
            rw [hws]
            refine hd6'.grown (grown_set' wr g k _) ?_
            rcases hao : (Value.slice Ad m6 cd).ownBlock with _ | j
            · exact .inl rfl
            · refine .inr fun e => ?_
              injection e with e
              have h2 := (hv6.out j hao).1
              omega
          have hsz2 : w6.heap.size ≤ ws.heap.size := by rw [hws]; simpa [World.setCell] using hszz
          rw [← hws] at hset1
          have HY := Lib.hid (And.intro hset1 (And.intro hD2 (And.intro hB4 (And.intro hk6 (And.intro hd6s hsz2)))))
          rw [hws] at HY
          have i1 : (0 : Int) ≤ (k : Int) := by omega
          have i2 : (k : Int) < (n : Int) := by omega
          have i3 : (k : Int) < 1048576 := by omega
          clear hset hset1 hD2 hB4 hD hBr ho hws ws hk6 hd6s hsz2 k6' hd6'
          generalize (L[k]'(by omega)) = x at *
          go_wp2_with fail
          exact ⟨⟨k + 1, _, by omega, by go_num, by rw [List.length_set]; exact hL, HY.out⟩, by simp [intOf]; omega⟩
        · obtain rfl : n = k := by omega
          have i2 : ¬ (n : Int) < (n : Int) := by omega
          have hv4' := hv4.out
          have HO := Lib.hid ho
          have HL := Lib.hid hL
          have HAPP : Hid (∀ w7 : World, (wr.alloc (.cells (bcells [1, 2, 3]).toArray 5)).grownBy w7 (Value.slice A4 n c4).ownBlock → DiskAt w7 F3 d (memM b) ∧ Below B w w7 ∧ w7.cell? ⟨g6, o6 + 1, none⟩ = some (.slice Ad m6 cd) ∧ Own w7 B6 (.slice Ad m6 cd) R6) := Lib.hid fun w7 hg7 => by
            have hne4 : ∀ j, (Value.slice A4 n c4).ownBlock = some j → j ≠ g6 ∧ B ≤ j ∧ ¬ F3 j ∧ j < B6 := fun j hj => by
              have h1 := hv4' j hj
              have h2 := hw6.1
              exact ⟨by omega, by omega, fun hF => by have := hFr j hF; omega, by omega⟩
            refine ⟨(hD.al _).keep (G := fun j => (Value.slice A4 n c4).ownBlock = some j) (Chg.of_grown hg7 fun j hj => hj) fun j hF hj => (hne4 j hj).2.2.1 hF, (hBr.alloc (by omega) _).grown hg7 (by simp; omega) fun j hj => (hne4 j hj).2.1, ?_, ?_⟩
            · have hc := (World.cell?_alloc_some wr ⟨g6, o6 + 1, none⟩ (.cells (bcells [1, 2, 3]).toArray 5) (by rw [k6']; rfl)).trans k6'
              exact hg7.cell hc fun e => (hne4 g6 e.symm).1 rfl
            · refine (hd6'.alloc _).grown hg7 ?_
              rcases hao : (Value.slice Ad m6 cd).ownBlock with _ | j
              · exact .inl rfl
              · refine .inr fun e => ?_
                have h1 := (hne4 j e.symm).2.2.2
                have h2 := (hv6.out j hao).1
                omega
          clear hv4' ho hL hD hBr
          go_wp2_with (at_builtin; go_loud (refine wpList_append_rd (v := Value.slice A4 n c4) rfl (.tmp 96) (.tmp 97) _ rfl i0 Try.underlying32 hi hz hsz hby rfl (HO.out.alloc _) rfl (rd_lit _ _ [1, 2, 3] 3 rfl rfl (by unfold maxLen; omega)) (by rw [HL.out]; simp; omega) (by simp; omega) ?_; intro v7 w7 ho7 hg7 _; have hap := HAPP.out _ hg7; obtain ⟨hD7, hB7, k7, hd7⟩ := hap; obtain ⟨A7, c7, hv7⟩ := ho7.form' (show _ = n + 3 by rw [List.length_append, HL.out]; rfl); subst hv7; clear ho7 hg7))
          clear k6' hd6' hszz HO HL HAPP
          go_wp2_with fail
          obtain ⟨wp, hwp⟩ : ∃ wp : World, wp = w7 := ⟨_, rfl⟩
          go_loopw [13, 104] (fun _ i wr => ∃ (k : Nat) (L : List UInt8), k ≤ m6 ∧ i = .int .i64 (k : Int) ∧ L.length = m6 ∧ Own wr B6 (.slice Ad m6 cd) L ∧ DiskAt wr F3 d (memM b) ∧ Below B w wr ∧ wr.cell? ⟨g6, o6 + 1, none⟩ = some (.slice Ad m6 cd))
            (fun _ i _ => m6 - (intOf i).toNat)
          case atStart => exact ⟨0, R6, Nat.zero_le _, rfl, HM6.out, hd7, hD7, hB7, k7⟩
          case round =>
            obtain ⟨k, L, hk, rfl, hL, ho, hD, hBr, k6'⟩ := hrel
            by_cases hlt : k < m6
            · obtain ⟨g, rfl, hBg, hgl, kc, kz, hset⟩ := ho.at_ hlt (by omega)
              have hg6ne : g ≠ g6 := HNE6.out g rfl
              have hgF : ∀ j, F3 j → ¬ j = g := fun j hj e => by have := hFr j hj; omega
              have hset1 := hset ((L[k]'(by omega)) ^^^ 9)
              rw [bval_xor _ 9 9 rfl] at hset1
              have hq : bits .xor .u8 (((L[k]'(by omega)).toNat : Nat) : Int) 9 = (((L[k]'(by omega)).toNat ^^^ 9 : Nat) : Int) := bits_xor_u8_nat _ 9 (L[k]'(by omega)).toNat_lt (by omega)
              obtain ⟨ws, hws⟩ : ∃ ws, ws = wr.setCell ⟨g, k, none⟩ (.int .u8 (((L[k]'(by omega)).toNat ^^^ 9 : Nat) : Int)) := ⟨_, rfl⟩
              have hD2 : DiskAt ws F3 d (memM b) := by rw [hws]; exact hD.keep (Chg.set wr (F := fun j => j = g) (p := ⟨g, k, none⟩) rfl _) hgF
              have hB4 : Below B w ws := by rw [hws]; exact hBr.setCell (p := ⟨g, k, none⟩) (by show B ≤ g; omega) _
              have hk6 : ws.cell? ⟨g6, o6 + 1, none⟩ = some (.slice (some ⟨g, 0, none⟩) m6 cd) := by rw [hws]; exact (World.cell?_setCell_far wr _ _ _ hg6ne).trans k6'
              rw [← hws] at hset1
              have HY := Lib.hid (And.intro hset1 (And.intro hD2 (And.intro hB4 hk6)))
              rw [hws] at HY
              have i1 : (0 : Int) ≤ (k : Int) := by omega
              have i2 : (k : Int) < (m6 : Int) := by omega
              have i3 : (k : Int) < 1048576 := by omega
              clear hset hset1 hD2 hB4 hD hBr ho hws ws hk6
              generalize (L[k]'(by omega)) = x at *
              go_wp2_with fail
              exact ⟨⟨k + 1, _, by omega, by go_num, by rw [List.length_set]; exact hL, HY.out⟩, by simp [intOf]; omega⟩
            · obtain rfl : m6 = k := by omega
              have i2 : ¬ (m6 : Int) < (m6 : Int) := by omega
              go_wp2_with fail
              refine (read_any hD sF (memF b hbl)).mono ?_
              rintro e w8 ⟨v8, rfl, ho8, hb8⟩
              rw [mem3] at ho8 ⊢
              have ho8 : Own w8 wr.heap.size v8 b := ho8
              have hB8 := hBr.trans (hb8.mono (by have := hBr.size; omega))
              obtain ⟨A8, c8, rfl⟩ := ho8.form' HN.out
              clear hD hBr ho k6' hb8
              go_wp2_with fail
              refine (read_none sF _).mono ?_
              rintro e w9 ⟨rfl, rfl⟩
              have q1 := run_str (w := w8) (src := 32) (dst := 9) Try.underlying32 Try.underlying5 Try.isString ho8.rd
              have q3 := run_str (w := w8) (src := 32) (dst := 9) Try.underlying32 Try.underlying5 Try.isString (hb.below hB8)
              have HB8 := Lib.hid hB8
              clear hB8 ho8
              go_wp2_with (first
                | (go_at_call 21; refine (append_none sF _ _).mono ?_; rintro e w10 ⟨rfl, rfl⟩)
                | (go_at_call 22; refine (sync_none sF _).mono ?_; rintro e w10 ⟨rfl, rfl⟩)
                | (go_at_call 24; refine (trunc_none sF 0 _).mono ?_; rintro e w10 ⟨rfl, rfl⟩)
                | (go_at_call 17; refine (down_none _).mono ?_; rintro e w10 ⟨rfl, rfl⟩)
                | (go_at_call 18; refine (waiting_none _).mono ?_; rintro e w10 ⟨rfl, rfl⟩)
                | (go_at_call 13; refine (crash_none [] _ _).mono ?_; rintro e w10 ⟨rfl, rfl⟩))
              go_ret
              exact ⟨rfl, HB8.out⟩
end Go.Proofs.Ytcnooafnifpbaaa
