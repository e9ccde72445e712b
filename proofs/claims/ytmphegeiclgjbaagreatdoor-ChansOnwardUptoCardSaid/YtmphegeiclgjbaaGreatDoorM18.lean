/- Texts joined: ClnG1, ClnM5, CnnA, CnnF. -/
import Derived.Test.YtmphegeiclgjbaaGreatDoorShfF
import Derived.Test.YtmphegeiclgjbaaGreatDoorM11
import Derived.Lib.ItoaMem
import Derived.Lib.Walk
import Derived.WalkKit
import Derived.Test.YtmphegeiclgjbaaGreatDoorM13
import Derived.Test.YtmphegeiclgjbaaGreatDoorM15
import Derived.Test.YtmphegeiclgjbaaGreatDoorM17
import Derived.Deep.MidRow
import Derived.Test.YtmphegeiclgjbaaGreatDoorM09
import Derived.Test.YtmphegeiclgjbaaGreatDoorM16
import Derived.Test.YtmphegeiclgjbaaGreatDoorRows
import Derived.Lib.LaidTab
import Derived.Deep.DeepHandedRow
import Derived.LaidSub
namespace Go.Proofs.YtmphegeiclgjbaaGreatDoor
set_option maxRecDepth 100000
open Go Go.RowKit
set_option linter.unusedVariables false

theorem below_growN (w : World) (k : Nat) (os : Array Obj) : Below w.heap.size w (Go.Sort.grow (w.drewN k) os) := by
  have hd : ∀ k, Below w.heap.size w (w.drewN k) := fun k => by
    induction k with
    | zero => rw [World.drewN_zero]; exact Below.refl _ _
    | succ k ih => exact ⟨ih.os, ih.tape, ih.output, ih.size, ih.block⟩
  have h := hd k
  refine ⟨h.os, h.tape, h.output, ?_, fun i hi => ?_⟩
  · show w.heap.size ≤ ((w.drewN k).heap ++ os).size
    rw [Array.size_append]
    exact Nat.le_trans h.size (Nat.le_add_right _ _)
  · show ((w.drewN k).heap ++ os)[i]? = w.heap[i]?
    rw [Array.getElem?_append_left (Nat.lt_of_lt_of_le hi h.size)]
    exact h.block i hi
theorem fin_posF (w : World) (o : Obj) (dk : Array UInt8) (k : Nat) : ∃ os, (Go.Sort.putRow (fun (b : UInt8) => Value.int .u8 (b.toNat : Int)) (w.alloc o) w.heap.size 0 dk).drewN k = Go.Sort.grow (w.drewN k) os := by
  rw [Go.Sort.alloc_eq_grow]
  obtain ⟨os', _, e⟩ := Go.Sort.putRow_grow_new (fun (b : UInt8) => Value.int .u8 (b.toNat : Int)) w #[o] w.heap.size 0 dk (Nat.le_refl _)
  exact ⟨os', by rw [e]; rfl⟩
theorem holds_zeroF (w : World) (T : TypeId) (nd : Nat) (hs : nd ≤ 24) : Go.Sort.Holds (fun (b : UInt8) => Value.int .u8 (b.toNat : Int)) (w.alloc (.cells Lib.zeros24 T)) w.heap.size 0 (Array.replicate nd (0 : UInt8)) := fun j hj => by
  have hj' : j < nd := by simpa using hj
  refine ⟨?_, World.frozen?_alloc_new _ _ _ _⟩
  rw [World.cell?_alloc_new, Lib.zeros24_at _ (by omega), getElem!_pos _ j hj]
  simp
set_option maxHeartbeats 6400000 in
theorem ifmtu_any (u : Nat) (hu64 : u < 18446744073709551616) (w : World) (htab : Lib.TabIs Tryz.prog w "internal/strconv.uint64pow10" .u64 Lib.pow10Tab) :
    Calls Tryz.prog 142 #[.int .u64 (u : Int), .int .i64 10] w fun e w' => e = .returned (.string (decB u)) ∧ Below w.heap.size w w' := by
  unfold decB
  by_cases hs : u < 100
  · have HS := Lib.hid (fun W => Tryz.internal_strconv_small u hs W)
    have i1 : (u : Int) < 100 := by omega
    have i2 : IntKind.i64.wrap (u : Int) = (u : Int) := by rw [IntKind.wrap_i64]; omega
    go_enter Tryz.func142, Tryz.ntmps142
    go_wp2_with fail
    refine (HS.out _).mono ?_
    rintro e w' ⟨rfl, rfl⟩
    go_wp2_with fail
    go_ret
    exact ⟨rfl, Below.refl _ _⟩
  · have hu1 : 1 ≤ u := by omega
    have i1 : ¬ (u : Int) < 100 := by omega
    have hnd20 : Lib.nDigits u ≤ 20 := by have := Lib.numDigits_eq u hu1 hu64; split at this <;> omega
    have hal : Tryz.prog.arrayLen 205 = 24 := by kernel_rfl
    have hsl1 : ∀ W, (Instr.sliceAt 205 (.pointer (some ⟨w.heap.size, 0, none⟩)) none (some (.int .i64 (Lib.nDigits u : Int))) none).run Tryz.prog W = .ok (.slice (some ⟨w.heap.size, 0, none⟩) (Lib.nDigits u) 24) W := fun W => by
      rw [run_sliceAt_array_h W 205 ⟨w.heap.size, 0, none⟩ Tryz.underlying205 .i64 (Lib.nDigits u : Int) (by omega) (by rw [hal]; omega)]
      go_simp
      first | done | omega | (rw [hal]; simp)
    have hH0 := holds_zeroF w 205 (Lib.nDigits u) (by omega)
    have hfmt := Tryz.internal_strconv_formatBase10 w.heap.size 0 24 u (Array.replicate (Lib.nDigits u) 0) (w.alloc (.cells Lib.zeros24 205)) hH0 (by rw [Array.size_replicate]; exact Lib.lt_pow_nDigits u) hu64 (by rw [Array.size_replicate]; omega)
    rw [Array.size_replicate] at hfmt
    have HF := Lib.hid hfmt
    have HH0 := Lib.hid hH0
    have HND := Lib.hid (fun W h => Tryz.internal_strconv_numDigits u hu1 hu64 W h)
    have HT := Lib.hid (Lib.tabIs_alloc htab (.cells Lib.zeros24 205))
    unfold Lib.zeros24 at HF HT
    clear hH0 hal hfmt htab
    go_enter Tryz.func142, Tryz.ntmps142
    go_wp2_with fail
    refine (HND.out _ HT.out).mono ?_
    rintro e w' ⟨rfl, rfl⟩
    go_wp2_with fail
    refine HF.out.mono ?_
    rintro e w' ⟨rfl, k, v', dk, rfl, hF⟩
    have hcv : (convert 32 9 (.slice (some ⟨w.heap.size, 0, none⟩) (Lib.nDigits u) 24)).run Tryz.prog ((Go.Sort.putRow (fun (b : UInt8) => Value.int .u8 (b.toNat : Int)) (w.alloc (.cells Lib.zeros24 205)) w.heap.size 0 dk).drewN k) = .ok (.string ⟨(Lib.decDigits u).toArray⟩) ((Go.Sort.putRow (fun (b : UInt8) => Value.int .u8 (b.toNat : Int)) (w.alloc (.cells Lib.zeros24 205)) w.heap.size 0 dk).drewN k) := by
      have h := run_convert_bytes_back (P := Tryz.prog) ((Go.Sort.putRow (fun (b : UInt8) => Value.int .u8 (b.toNat : Int)) (w.alloc (.cells Lib.zeros24 205)) w.heap.size 0 dk).drewN k) 32 9 5 ⟨w.heap.size, 0, none⟩ 24 (Lib.decDigits u) Tryz.underlying32 Tryz.underlying5 Tryz.underlying9 (fun j hj => by
        rw [Lib.row_is_numeral hF j hj, Lib.add_plain, World.cell?_drewN]
        exact Go.Sort.cell?_putRow (fun (b : UInt8) => Value.int .u8 (b.toNat : Int)) _ w.heap.size 0 _ dk HH0.out (by rw [hF.size, Array.size_replicate]) j (by rw [hF.size]; rw [Lib.decDigits_length] at hj; exact hj))
      rw [Lib.decDigits_length] at h
      exact h
    obtain ⟨os, eo⟩ := fin_posF w (.cells Lib.zeros24 205) dk k
    have hfin : Below w.heap.size w ((Go.Sort.putRow (fun (b : UInt8) => Value.int .u8 (b.toNat : Int)) (w.alloc (.cells Lib.zeros24 205)) w.heap.size 0 dk).drewN k) := by rw [eo]; exact below_growN w k os
    have HFI := Lib.hid hfin
    unfold Lib.zeros24 at hcv HFI
    clear hF eo hfin
    generalize (Go.Sort.putRow (fun (b : UInt8) => Value.int .u8 (b.toNat : Int)) (w.alloc (.cells _ 205)) w.heap.size 0 dk).drewN k = W2 at *
    go_wp2_with fail
    go_ret
    exact ⟨rfl, HFI.out⟩
theorem fmtu_any (u : Nat) (hu64 : u < 18446744073709551616) (w : World) (htab : Lib.TabIs Tryz.prog w "internal/strconv.uint64pow10" .u64 Lib.pow10Tab) :
    Calls Tryz.prog 131 #[.int .u64 (u : Int), .int .i64 10] w fun e w' => e = .returned (.string (decB u)) ∧ Below w.heap.size w w' := by
  have HI := Lib.hid (ifmtu_any u hu64 w htab)
  clear htab
  go_enter Tryz.func131, Tryz.ntmps131
  go_wp2_with fail
  refine HI.out.mono ?_
  rintro e w' ⟨rfl, hb⟩
  go_wp2_with fail
  go_ret
  exact ⟨rfl, hb⟩
end Go.Proofs.YtmphegeiclgjbaaGreatDoor
namespace Go.Proofs.YtmphegeiclgjbaaGreatDoor
set_option maxRecDepth 100000
open Go Go.RowKit
set_option linter.unusedVariables false

theorem tab_kept {w w' : World} {name : String} {k : IntKind} {zs : List Int} (h : Lib.TabIs Tryz.prog w name k zs) (hk : Kept w w') : Lib.TabIs Tryz.prog w' name k zs := by
  unfold Lib.TabIs World.var? at *
  cases hg : Tryz.prog.globalNamed name with
  | none => simp [hg] at h
  | some g =>
    simp only [hg, Option.bind_some] at h ⊢
    cases ho : w.heap[g]? with
    | none => rw [ho] at h; simp at h
    | some o =>
      cases o with
      | cells cs t fr => rw [hk.blockP ho]; rw [ho] at h; exact h
      | _ => rw [ho] at h; simp at h
/-- the table of the powers of ten -/
def Pows (w : World) : Prop := Lib.TabIs Tryz.prog w "internal/strconv.uint64pow10" .u64 Lib.pow10Tab
theorem Pows.kept {w w' : World} (h : Pows w) (hk : Kept w w') : Pows w' := tab_kept h hk
theorem decB_len (n : Nat) (hn : n < 18446744073709551616) : (decB n).size ≤ 20 := by
  have h : (decB n).size = (Lib.decDigits n).length := by unfold decB; simp [ByteArray.size]
  rw [h, Lib.decDigits_length]
  by_cases h1 : 1 ≤ n
  · have := Lib.numDigits_eq n h1 hn
    split at this <;> omega
  · have : n = 0 := by omega
    subst this
    decide +kernel
theorem newID_len (R : List Pr) (kind : ByteArray) : (newID R kind).size ≤ kind.size + 21 := by
  unfold newID
  rw [ByteArray.size_append, ByteArray.size_append, dash_size]
  have := decB_len (numN R kind) (rN_ltP _ _)
  omega
theorem newidU_any {W w : World} {y : Lyr} {l : List Lyr} {R : List Pr} {k : Nat} (h : At W y l R k w) (hn : y.n + k < maxLen) (kind : ByteArray) (hk : kind.size ≤ 1000) (hT : Pows w) :
    Calls Tryz.prog 96 #[.pointer (some ⟨y.b, 0, none⟩), .string kind] w fun e w' => e = .returned (.string (newID R kind)) ∧ At W y l (newR R kind) (k + 1) w' ∧ Kept w w' :=
  newid_gen h hn kind hk (by have := decB_len (numN R kind) (rN_ltP _ _); omega) fun Z hz => fmtu_any (numN R kind) (rN_ltP _ _) Z (hT.kept hz)
set_option maxHeartbeats 8000000 in
theorem clcreate_gen {W w : World} {y : Lyr} {l : List Lyr} {R : List Pr} {k : Nat} (h : At W y l R k w) (hn : y.n + k + 3 ≤ maxLen) (zid : (newID R sClient).size ≤ 1000) (HN0 : ∀ Z, Below w.heap.size w Z → Calls Tryz.prog 96 #[.pointer (some ⟨y.b, 0, none⟩), .string sClient] Z fun e w' => e = .returned (.string (newID R sClient)) ∧ At W y l (newR R sClient) (k + 1) w' ∧ Kept Z w') (H : HdV) (pe now : Nat) (vr vv vn : Value) (hr : Rd w w.heap.size vr H.rt) (hv : Rd w w.heap.size vv H.va) (hx : Rd w w.heap.size vn H.nx)
    (h_ch : H.ch.size ≤ 100000000) (h_ht : H.ht < 18446744073709551616) (h_tm : H.tm < 18446744073709551616) (h_pe : pe < 18446744073709551616) :
    Calls Tryz.prog 47 #[.pointer (some ⟨y.b, 0, none⟩), .agg #[.string H.ch, .int .u64 (H.ht : Int), .int .u64 (H.tm : Int), vr, vv, vn], .int .u64 (pe : Int), .int .u64 (now : Int)] w fun e w' => e = .returned (.tuple #[.string (if createE H pe now = 0 then newID R sClient else ⟨#[]⟩), .int .i64 (createE H pe now)]) ∧ At W y l (if createE H pe now = 0 then createR R H pe else R) (k + 3) w' ∧ Kept w w' := by
  obtain ⟨ch, ht, tm, rt, va, nx⟩ := H
  dsimp only at *
  have z4 : sClient.size = 6 := rfl
  have HI : Hid (∀ Z : World, Calls Tryz.prog 49 #[.string ch] Z fun e w' => e = .returned (.bool (identB ch)) ∧ Z = w') := Lib.hid fun Z => ident_any ch Z (by unfold maxLen; omega)
  have HA := Lib.hid (fun Z : World => ahead_any tm now Z h_tm)
  have hz0 : ∀ Z, Below w.heap.size w Z → Rd Z Z.heap.size vr rt ∧ Rd Z Z.heap.size vv va ∧ Rd Z Z.heap.size vn nx := fun Z hz => ⟨hr.up (Nat.le_refl _) hz, hv.up (Nat.le_refl _) hz, hx.up (Nat.le_refl _) hz⟩
  have HT0 : Hid (∀ Z R', At W y l R' (k + 2) Z → Kept w Z → Calls Tryz.prog 74 #[.pointer (some ⟨y.b, 0, none⟩), .string (newID R sClient), .agg #[.string ch, .int .u64 (ht : Int), .int .u64 (tm : Int), vr, vv, vn]] Z fun e w' => e = .returned (.tuple #[]) ∧ At W y l (setL (kCons (newID R sClient) ht) (csB ⟨tm, rt, nx⟩) R') (k + 2 + 1) w' ∧ Kept Z w') :=
    Lib.hid fun Z R' hA hz => cltrust_any hA (by omega) _ (by omega) ch ht tm vr vv vn rt va nx (hz.rd hr) (hz.rd hv) (hz.rd hx) h_ht h_tm
  have HP0 : Hid (∀ Z, At W y l (newR R sClient) (k + 1) Z → Calls Tryz.prog 75 #[.pointer (some ⟨y.b, 0, none⟩), .string (newID R sClient), .agg #[.string ch, .int .u64 (ht : Int), .int .u64 (pe : Int), .bool false]] Z fun e w' => e = .returned (.tuple #[]) ∧ At W y l (setL (kCli (newID R sClient)) (clB ⟨ch, ht, pe, false⟩) (newR R sClient)) (k + 1 + 1) w' ∧ Kept Z w') :=
    Lib.hid fun Z hA => clput_any hA (by omega) _ (by omega) ⟨ch, ht, pe, false⟩ (by show ch.size ≤ _; unfold maxLen; omega) h_ht h_pe
  have hform : (HdV.mk ch ht tm rt va nx).formed = (decide (rt.length = 32) && (decide (va.length = 32) && decide (nx.length = 32))) := rfl
  obtain ⟨Ar, cr, rfl⟩ := hr.form
  obtain ⟨Av, cv, rfl⟩ := hv.form
  obtain ⟨An, cn, rfl⟩ := hx.form
  unfold createE createR
  dsimp only
  rw [hform]
  clear hform hr hv hx hz0
  generalize rt.length = nr at *
  generalize va.length = nv at *
  generalize nx.length = nn at *
  have hbox := heap_alloc_new w (.cells #[.string ch, .int .u64 (ht : Int), .int .u64 (tm : Int), .slice Ar nr cr, .slice Av nv cv, .slice An nn cn] 34)
  have ha0 : Below w.heap.size w (w.alloc (.cells #[.string ch, .int .u64 (ht : Int), .int .u64 (tm : Int), .slice Ar nr cr, .slice Av nv cv, .slice An nn cn] 34)) := (Below.refl _ _).alloc (Nat.le_refl _) _
  have HF := Lib.hid (fun Z : World => formed_any ch ht tm Ar Av An nr cr nv cv nn cn Z)
  have HN := Lib.hid HN0
  have HUP := Lib.hid (fun (Z : World) (hz : Below w.heap.size w Z) => (h.up hz).more (show k ≤ k + 3 by omega))
  generalize hW0 : w.alloc (.cells #[.string ch, .int .u64 (ht : Int), .int .u64 (tm : Int), .slice Ar nr cr, .slice Av nv cv, .slice An nn cn] 34) = w0 at *
  have e1 : ∀ n : Nat, ((n : Int) == 0) = decide (n = 0) := fun n => by
    by_cases h : n = 0
    · subst h; rfl
    · rw [decide_eq_false h]; simp; omega
  have f1 := e1 ht
  have f2 := e1 pe
  clear e1 h zid z4 HN0 h_tm h_pe h_ht h_ch hn
  generalize hR3 : setL (kCons (newID R sClient) ht) (csB ⟨tm, rt, nx⟩) (setL (kCli (newID R sClient)) (clB ⟨ch, ht, pe, false⟩) (newR R sClient)) = R3 at *
  have HR3 := Lib.hid hR3
  clear hR3
  have q0 := blk_cell hbox 0
  have q1 := blk_cell hbox 1
  have q2 := blk_cell hbox 2
  have q3 := blk_cell hbox 3
  have q4 := blk_cell hbox 4
  have q5 := blk_cell hbox 5
  unfold sClient at HN
  cases hb1 : identB ch with
  | false =>
    simp only [Bool.false_eq_true, if_false, if_neg (show ¬ (40 : Int) = 0 by decide)]
    rw [hb1] at HI
    go_enter Tryz.func47, Tryz.ntmps47
    go_wp2_with fail
    try rw [hW0]
    clear hW0
    refine (HI.out _).mono ?_
    rintro e w1 ⟨rfl, rfl⟩
    go_wp2_with fail
    go_ret2
    exact ⟨rfl, HUP.out _ ha0, Kept.of_belowX ha0⟩
  | true =>
    rw [hb1] at HI
    by_cases h2 : ht = 0
    · have g2 : decide (ht = 0) = true := decide_eq_true h2
      rw [g2] at f1
      simp only [if_true, if_pos h2, if_neg (show ¬ (104 : Int) = 0 by decide)]
      clear g2 h2
      go_enter Tryz.func47, Tryz.ntmps47
      go_wp2_with fail
      try rw [hW0]
      clear hW0
      refine (HI.out _).mono ?_
      rintro e w1 ⟨rfl, rfl⟩
      go_wp2_with fail
      go_ret2
      exact ⟨rfl, HUP.out _ ha0, Kept.of_belowX ha0⟩
    · have g2 : decide (ht = 0) = false := decide_eq_false h2
      rw [g2] at f1
      cases h3 : aheadB tm now with
      | true =>
        rw [h3] at HA
        simp only [if_true, if_neg h2, if_neg (show ¬ (105 : Int) = 0 by decide)]
        clear g2 h2
        go_enter Tryz.func47, Tryz.ntmps47
        go_wp2_with fail
        try rw [hW0]
        clear hW0
        refine (HI.out _).mono ?_
        rintro e w1 ⟨rfl, rfl⟩
        go_wp2_with fail
        refine (HA.out _).mono ?_
        rintro e w1 ⟨rfl, rfl⟩
        go_wp2_with fail
        go_ret2
        exact ⟨rfl, HUP.out _ ha0, Kept.of_belowX ha0⟩
      | false =>
        rw [h3] at HA
        by_cases h4 : pe = 0
        · have g4 : decide (pe = 0) = true := decide_eq_true h4
          rw [g4] at f2
          simp only [if_true, if_neg h2, Bool.false_eq_true, if_false, if_pos h4, if_neg (show ¬ (2 : Int) = 0 by decide)]
          clear g2 h2 g4 h4
          go_enter Tryz.func47, Tryz.ntmps47
          go_wp2_with fail
          try rw [hW0]
          clear hW0
          refine (HI.out _).mono ?_
          rintro e w1 ⟨rfl, rfl⟩
          go_wp2_with fail
          refine (HA.out _).mono ?_
          rintro e w1 ⟨rfl, rfl⟩
          go_wp2_with fail
          go_ret2
          exact ⟨rfl, HUP.out _ ha0, Kept.of_belowX ha0⟩
        · have g4 : decide (pe = 0) = false := decide_eq_false h4
          rw [g4] at f2
          cases h5 : (decide (nr = 32) && (decide (nv = 32) && decide (nn = 32))) with
          | false =>
            rw [h5] at HF
            simp only [if_true, if_neg h2, Bool.false_eq_true, if_false, if_neg h4, if_neg (show ¬ (21 : Int) = 0 by decide)]
            clear g2 h2 g4 h4 h5
            go_enter Tryz.func47, Tryz.ntmps47
            go_wp2_with fail
            try rw [hW0]
            clear hW0
            refine (HI.out _).mono ?_
            rintro e w1 ⟨rfl, rfl⟩
            go_wp2_with fail
            refine (HA.out _).mono ?_
            rintro e w1 ⟨rfl, rfl⟩
            go_wp2_with fail
            refine (HF.out _).mono ?_
            rintro e w2 ⟨rfl, hb2⟩
            have b2 := below_chain ha0 ha0.size hb2
            go_wp2_with fail
            go_ret2
            exact ⟨rfl, HUP.out _ b2, Kept.of_belowX b2⟩
          | true =>
            rw [h5] at HF
            simp only [if_true, if_neg h2, Bool.false_eq_true, if_false, if_neg h4]
            clear g2 h2 g4 h4 h5
            go_enter Tryz.func47, Tryz.ntmps47
            go_wp2_with fail
            try rw [hW0]
            clear hW0
            refine (HI.out _).mono ?_
            rintro e w1 ⟨rfl, rfl⟩
            go_wp2_with fail
            refine (HA.out _).mono ?_
            rintro e w1 ⟨rfl, rfl⟩
            go_wp2_with fail
            refine (HF.out _).mono ?_
            rintro e w2 ⟨rfl, hb2⟩
            have b2 := below_chain ha0 ha0.size hb2
            have k2 := (hb2.block _ (blk_lt hbox)).trans hbox
            have HN2 := Lib.hid (HN.out _ b2)
            have HK2 := Lib.hid k2
            have HB2 := Lib.hid b2
            clear HI HA HF HN HUP q0 q1 q2 q3 q4 q5 hb2 ha0 hbox k2 b2
            go_wp2_with fail
            refine HN2.out.mono ?_
            rintro e w3 ⟨rfl, A3, hk3⟩
            have HP3 := Lib.hid (HP0.out _ A3)
            have c0 := hk3.cell (blk_cell HK2.out 0)
            have c1 := hk3.cell (blk_cell HK2.out 1)
            clear HN2 HP0 A3
            go_wp2_with fail
            refine HP3.out.mono ?_
            rintro e w4 ⟨rfl, A4, hk4⟩
            have hk24 := hk3.transX hk4
            have hkw := (Kept.of_belowX HB2.out).transX hk24
            have HT4 := Lib.hid (HT0.out _ _ A4 hkw)
            have c0 := hk24.cell (blk_cell HK2.out 0)
            have c1 := hk24.cell (blk_cell HK2.out 1)
            have c2 := hk24.cell (blk_cell HK2.out 2)
            have c3 := hk24.cell (blk_cell HK2.out 3)
            have c4 := hk24.cell (blk_cell HK2.out 4)
            have c5 := hk24.cell (blk_cell HK2.out 5)
            clear HP3 HT0 A4 hk3 hk4 hk24
            go_wp2_with fail
            refine HT4.out.mono ?_
            rintro e w5 ⟨rfl, A5, hk5⟩
            have hkf := hkw.transX hk5
            go_wp2_with fail
            go_ret2
            exact ⟨rfl, by rw [← HR3.out]; exact A5, hkf⟩
theorem clcreateU_any {W w : World} {y : Lyr} {l : List Lyr} {R : List Pr} {k : Nat} (h : At W y l R k w) (hn : y.n + k + 3 ≤ maxLen) (hT : Pows w) (H : HdV) (pe now : Nat) (vr vv vn : Value) (hr : Rd w w.heap.size vr H.rt) (hv : Rd w w.heap.size vv H.va) (hx : Rd w w.heap.size vn H.nx)
    (h_ch : H.ch.size ≤ 100000000) (h_ht : H.ht < 18446744073709551616) (h_tm : H.tm < 18446744073709551616) (h_pe : pe < 18446744073709551616) :
    Calls Tryz.prog 47 #[.pointer (some ⟨y.b, 0, none⟩), .agg #[.string H.ch, .int .u64 (H.ht : Int), .int .u64 (H.tm : Int), vr, vv, vn], .int .u64 (pe : Int), .int .u64 (now : Int)] w fun e w' => e = .returned (.tuple #[.string (if createE H pe now = 0 then newID R sClient else ⟨#[]⟩), .int .i64 (createE H pe now)]) ∧ At W y l (if createE H pe now = 0 then createR R H pe else R) (k + 3) w' ∧ Kept w w' :=
  clcreate_gen h hn (by have := newID_len R sClient; have z : sClient.size = 6 := rfl; omega) (fun Z hz => newidU_any (h.up hz) (by omega) sClient (by decide +kernel) (hT.kept (Kept.of_belowX hz))) H pe now vr vv vn hr hv hx h_ch h_ht h_tm h_pe
end Go.Proofs.YtmphegeiclgjbaaGreatDoor
namespace Go.Proofs.YtmphegeiclgjbaaGreatDoor
set_option maxRecDepth 100000
open Go Go.RowKit
set_option linter.unusedVariables false

def absentE (R : List Pr) (id : ByteArray) (ht now : Nat) (key : ByteArray) (p : Pf) : Int :=
  if (showM R id ht now).2 = 0 then (if absentB (showM R id ht now).1 key p = true then 0 else 61) else (showM R id ht now).2
/-! ### what a message says -/
theorem LeavesV.form {w : World} {B : Nat} {v : Value} {ls : List Lf} (h : LeavesV w B v ls) : ∃ A c, v = .slice A ls.length c := by obtain ⟨A, c, h, _⟩ := h; exact ⟨A, c, h⟩
theorem OrdsAt.form {w : World} {v : Value} {ls : List OrdV} (h : OrdsAt w v ls) : ∃ A c, v = .slice A ls.length c := by obtain ⟨A, c, h, _⟩ := h; exact ⟨A, c, h⟩
def nwOf (m : MsgV) : NwW := ⟨m.h, m.vs1, m.s1, m.vs3, m.s3, m.vt1, m.t1, m.at_⟩
def nw2Of (m : MsgV) : NwW := ⟨m.o, m.vs2, m.s2, m.vs3, m.s3, m.vt2, m.t2, m.at_⟩
theorem nwOf_rd {m : MsgV} {w : World} (h : m.rd w) (hs : m.small 1048576) : (nwOf m).rd w := ⟨h.r_h, h.r_s1, h.r_s3, h.r_t1, h.lt_at_, hs.l _ (by simp [MsgV.lens, nwOf]), hs.l _ (by simp [MsgV.lens, nwOf])⟩
theorem nw2Of_rd {m : MsgV} {w : World} (h : m.rd w) (hs : m.small 1048576) : (nw2Of m).rd w := ⟨h.r_o, h.r_s2, h.r_s3, h.r_t2, h.lt_at_, hs.l _ (by simp [MsgV.lens, nw2Of]), hs.l _ (by simp [MsgV.lens, nw2Of])⟩
/-! ### two stores, side by side -/
structure Sts (w : World) (b m b' m' : Nat) (R R' : List Pr) (N : Nat) (Z : World) : Prop where
  a : ∃ n f, n ≤ N ∧ PileS Z [⟨b, m, n, f⟩] ∧ SeenL ⟨#[]⟩ [⟨b, m, n, f⟩] R
  c : ∃ n f, n ≤ N ∧ PileS Z [⟨b', m', n, f⟩] ∧ SeenL ⟨#[]⟩ [⟨b', m', n, f⟩] R'
  ne : m ≠ m'
  lo : w.heap.size ≤ m
  lo' : w.heap.size ≤ m'
  bel : Below w.heap.size w Z
section
variable {w Z Z' : World} {b m b' m' N k : Nat} {R R' R2 : List Pr}
theorem Sts.swap (h : Sts w b m b' m' R R' N Z) : Sts w b' m' b m R' R N Z := ⟨h.c, h.a, h.ne.symm, h.lo', h.lo, h.bel⟩
theorem Sts.up (h : Sts w b m b' m' R R' N Z) (hb : Below Z.heap.size Z Z') : Sts w b m b' m' R R' N Z' := by
  obtain ⟨n, f, h1, h2, h3⟩ := h.a
  obtain ⟨n', f', k1, k2, k3⟩ := h.c
  exact ⟨⟨n, f, h1, h2.up hb, h3⟩, ⟨n', f', k1, k2.up hb, k3⟩, h.ne, h.lo, h.lo', h.bel.trans (hb.mono h.bel.size)⟩
theorem Sts.more {N' : Nat} (h : Sts w b m b' m' R R' N Z) (hN : N ≤ N') : Sts w b m b' m' R R' N' Z := by
  obtain ⟨n, f, h1, h2, h3⟩ := h.a
  obtain ⟨n', f', k1, k2, k3⟩ := h.c
  exact ⟨⟨n, f, by omega, h2, h3⟩, ⟨n', f', by omega, k2, k3⟩, h.ne, h.lo, h.lo', h.bel⟩
theorem Sts.at (h : Sts w b m b' m' R R' N Z) : ∃ n f, n ≤ N ∧ At Z ⟨b, m, n, f⟩ [] R 0 Z := by
  obtain ⟨n, f, h1, h2, h3⟩ := h.a
  exact ⟨n, f, h1, BankS.refl h2 h3, h2⟩
theorem Sts.step {n : Nat} {f : LF} (h : Sts w b m b' m' R R' N Z) (hn : n ≤ N) (A : At Z ⟨b, m, n, f⟩ [] R2 k Z') : Sts w b m b' m' R2 R' (N + k) Z' := by
  obtain ⟨n', f', h1, h2, h3, h4⟩ := A.b
  obtain ⟨n2, f2, k1, k2, k3⟩ := h.c
  dsimp only at h1 h2 h3 h4
  refine ⟨⟨n', f', by omega, h1, h2⟩, ⟨n2, f2, by omega, ?_, k3⟩, h.ne, h.lo, h.lo', h.bel.trans (A.below (B := w.heap.size) h.lo h.bel.size)⟩
  exact k2.chg h4 A.p.1.maps fun z hz e => by
    rw [List.mem_singleton.1 hz] at e
    exact h.ne e.symm
theorem Sts.rise (h : Sts w b m b' m' R R' N Z) : Rise R := by obtain ⟨n, f, h1, h2, h3⟩ := h.a; exact h3.rise
end
end Go.Proofs.YtmphegeiclgjbaaGreatDoor
namespace Go.Proofs.YtmphegeiclgjbaaGreatDoor
set_option maxRecDepth 100000
open Go Go.RowKit
set_option linter.unusedVariables false

section
variable {w Z Z' : World} {b m b' m' N g : Nat} {R R' : List Pr} {cs : Array Value} {t : TypeId}
theorem Sts.offB (h : Sts w b m b' m' R R' N Z) (hg : Z.grownBy Z' (some g)) (hi : Z.heap[g]? = some (.cells cs t (0, 0))) (hno : ∀ (j : Nat) (z : Int), cs[j]? ≠ some (.int .u8 z)) (h0 : cs[0]? ≠ some (.pointer (some ⟨g, 0, none⟩))) (hw : w.heap.size ≤ g) : Sts w b m b' m' R R' N Z' := by
  obtain ⟨n, f, h1, h2, h3⟩ := h.a
  obtain ⟨n', f', k1, k2, k3⟩ := h.c
  exact ⟨⟨n, f, h1, h2.offB hg hi hno h0, h3⟩, ⟨n', f', k1, k2.offB hg hi hno h0, k3⟩, h.ne, h.lo, h.lo', h.bel.grown hg h.bel.size fun k e => by injection e with e; omega⟩
theorem Sts.made {w w1 w2 : World} {y1 y2 : Lyr} {ps1 ps2 : List Pr} (hb1 : Below w.heap.size w w1) (hm1 : w.heap.size ≤ y1.m) (hp1 : PileS w1 [y1]) (hl1 : LyrIs ps1 y1) (hr1 : Rise ps1) (hs1 : ∀ p ∈ ps1, p.1.size ≤ maxLen) (e1 : y1.n = ps1.length) (l1 : ps1.length ≤ N)
    (hb2 : Below w1.heap.size w1 w2) (hm2 : w1.heap.size ≤ y2.m) (hp2 : PileS w2 [y2]) (hl2 : LyrIs ps2 y2) (hr2 : Rise ps2) (hs2 : ∀ p ∈ ps2, p.1.size ≤ maxLen) (e2 : y2.n = ps2.length) (l2 : ps2.length ≤ N) : Sts w y1.b y1.m y2.b y2.m ps1 ps2 N w2 := by
  have A1 := At.made hp1 hl1 hr1 hs1
  have A2 := At.made hp2 hl2 hr2 hs2
  obtain ⟨n, f, h1, h2, h3, h4⟩ := A1.b
  obtain ⟨n', f', k1, k2, k3, k4⟩ := A2.b
  have hlt := (hp1.lt y1 (by simp)).2
  exact ⟨⟨n, f, by omega, h1.up hb2, h2⟩, ⟨n', f', by omega, k1, k2⟩, by omega, hm1, Nat.le_trans hb1.size hm2, hb1.trans (hb2.mono hb1.size)⟩
end
theorem grown_set2B (w : World) (b : Nat) (u v : Value) : w.grownBy ((w.setCell ⟨b, 0, none⟩ u).setCell ⟨b, 1, none⟩ v) (some b) :=
  (grown_setCellB w b 0 u).trans (grown_setCellB _ b 1 v)
end Go.Proofs.YtmphegeiclgjbaaGreatDoor
namespace Go.Proofs.YtmphegeiclgjbaaGreatDoor
set_option maxRecDepth 100000
open Go Go.RowKit
set_option linter.unusedVariables false

def hdOf (h : HdW) : HdV := ⟨h.ch, h.ht, h.tm, h.rt, h.va, h.nx⟩
def stepM14 (R : List Pr) (x : StepV) : Int × List Pr :=
  if x.m.kd = 2 then (createE (hdOf x.m.h) x.m.per x.now, if createE (hdOf x.m.h) x.m.per x.now = 0 then createR R (hdOf x.m.h) x.m.per else R)
  else if x.m.kd = 3 then updM R x.m.cl (nwOf x.m) x.now
  else if x.m.kd = 4 then misM R x.m.cl (nwOf x.m) (nw2Of x.m) x.now
  else (83, R)
theorem below_setCellsT {B : Nat} {w w' : World} {b : Nat} (h : Below B w w') (hb : B ≤ b) : ∀ (vs : List Value) (o : Nat), Below B w (w'.setCells b o vs)
  | [], o => h
  | v :: vs, o => below_setCellsT (h.setCell (p := ⟨b, o, none⟩) hb v) hb vs (o + 1)
theorem range_cellT {w : World} {b : Nat} {L : List Value} (h : w.rangeAt b 0 L) (i : Nat) (u : Value) (e : L[i]? = some u) : w.cell? ⟨b, i, none⟩ = some u := by
  have := h i u e
  simpa using this
end Go.Proofs.YtmphegeiclgjbaaGreatDoor
namespace Go.Proofs.YtmphegeiclgjbaaGreatDoor
set_option maxRecDepth 100000
open Go Go.RowKit
set_option linter.unusedVariables false

theorem rF_ok {l : List UInt8} {f : Int} (h : (rF l f).2.2 = 0) : f = 0 ∧ l = fb (rF l f).1 :: (rF l f).2.1 := by
  unfold rF at h ⊢
  split at h
  · next h1 => exact absurd h h1
  · next h1 =>
    rw [if_neg h1]
    refine ⟨by simpa using h1, ?_⟩
    cases l with
    | nil => cases h
    | cons x r =>
      dsimp only at h ⊢
      split at h
      · cases h
      · next h2 =>
        rw [if_neg h2]
        dsimp only
        congr 1
        apply UInt8.toNat_inj.1
        have : x.toNat = 0 ∨ x.toNat = 1 := by omega
        rcases this with e | e <;> simp [e, fb]
end Go.Proofs.YtmphegeiclgjbaaGreatDoor
namespace Go.Proofs.YtmphegeiclgjbaaGreatDoor
set_option maxRecDepth 100000
open Go Go.RowKit
set_option linter.unusedVariables false

/-- every value fits -/
def FitR (R : List Pr) : Prop := ∀ key v, getL R key = some v → v.length ≤ 65535
theorem encB_take (m : List UInt8) (h : m.length ≤ 65535) : encS ⟨m.toArray⟩ = encB m := by
  unfold encS strBytes
  simp
theorem FitR.cons {R : List Pr} (h : FitR R) (a : ByteArray) (n : Nat) (v : List UInt8) : FitR (setL (kCons a n) v R) := fun key u e => by
  unfold setL at e
  split at e
  · next hp =>
    rw [getL_putL] at e
    split at e
    · injection e with e
      unfold pairB at hp
      simp only [Bool.and_eq_true, decide_eq_true_eq] at hp
      rw [← e]; exact hp.2
    · exact h _ _ e
  · exact h _ _ e
end Go.Proofs.YtmphegeiclgjbaaGreatDoor
namespace Go.Proofs.YtmphegeiclgjbaaGreatDoor
set_option maxRecDepth 100000
open Go Go.RowKit
set_option linter.unusedVariables false

theorem and1i (n : Int) : bits .and .i64 n 1 = 0 ∨ bits .and .i64 n 1 = 1 := by
  have e : bits .and .i64 n 1 = IntKind.i64.wrap ((BitVec.ofInt 64 n &&& BitVec.ofInt 64 1).toNat : Int) := rfl
  rw [e, BitVec.toNat_and, show (BitVec.ofInt 64 1).toNat = 2 ^ 1 - 1 from rfl, Nat.and_two_pow_sub_one_eq_mod]
  have h : (BitVec.ofInt 64 n).toNat % 2 ^ 1 = 0 ∨ (BitVec.ofInt 64 n).toNat % 2 ^ 1 = 1 := by omega
  rcases h with h | h <;> rw [h]
  · left; decide
  · right; decide
theorem there_new (w : World) (zs : Array Value) (t : TypeId) (n : Nat) (h : n ≤ zs.size) : (w.alloc (.cells zs t)).there w.heap.size 0 n := fun q hq => by
  have hb := heap_alloc_new w (.cells zs t)
  rw [Nat.zero_add]
  refine ⟨?_, blk_free hb q⟩
  rw [blk_cell hb q]
  have : q < zs.size := by omega
  simpa using this
theorem below_new (w : World) (zs : Array Value) (t : TypeId) (L : List Value) : Below w.heap.size w ((w.alloc (.cells zs t)).setCells w.heap.size 0 L) :=
  below_setCellsT ((Below.refl _ _).alloc (Nat.le_refl _) _) (Nat.le_refl _) L 0
theorem range_new (w : World) (zs : Array Value) (t : TypeId) (L : List Value) (h : L.length ≤ zs.size) : ((w.alloc (.cells zs t)).setCells w.heap.size 0 L).rangeAt w.heap.size 0 L :=
  World.rangeAt_setCells_same _ _ 0 L (there_new w zs t L.length h)
theorem range_kept {w Z : World} {b : Nat} {L : List Value} (h : w.rangeAt b 0 L) (hk : Kept w Z) : Z.rangeAt b 0 L := fun j v hv => hk.cell (h j v hv)
/-- two stores in an array's box -/
structure LS (w : World) (b1 m1 b2 m2 g N : Nat) (Z : World) : Prop where
  s : ∃ R1 R2, Sts w b1 m1 b2 m2 R1 R2 N Z
  x : Z.cell? ⟨g, 0, none⟩ = some (.pointer (some ⟨b1, 0, none⟩))
  y : Z.cell? ⟨g, 1, none⟩ = some (.pointer (some ⟨b2, 0, none⟩))
theorem LS.bel {w Z : World} {b1 m1 b2 m2 g N : Nat} (h : LS w b1 m1 b2 m2 g N Z) : Below w.heap.size w Z := by
  obtain ⟨R1, R2, h⟩ := h.s
  exact h.bel
/-- the store that a step names, and what comes back -/
theorem LS.pick {w Z : World} {b1 m1 b2 m2 g N : Nat} (h : LS w b1 m1 b2 m2 g N Z) (q : Int) (hq : q = 0 ∨ q = 1) :
    ∃ (i b m b' m' : Nat) (R R' : List Pr), q = (i : Int) ∧ i < 2 ∧ Sts w b m b' m' R R' N Z ∧ Z.cell? ⟨g, i, none⟩ = some (.pointer (some ⟨b, 0, none⟩)) ∧
      ∀ (R2 : List Pr) (Z' : World) (N' : Nat), Sts w b m b' m' R2 R' N' Z' → Kept Z Z' → LS w b1 m1 b2 m2 g N' Z' := by
  obtain ⟨R1, R2, hs⟩ := h.s
  rcases hq with rfl | rfl
  · exact ⟨0, b1, m1, b2, m2, R1, R2, rfl, by omega, hs, h.x, fun R3 Z' N' k hk => ⟨⟨R3, R2, k⟩, hk.cell h.x, hk.cell h.y⟩⟩
  · exact ⟨1, b2, m2, b1, m1, R2, R1, rfl, by omega, hs.swap, h.y, fun R3 Z' N' k hk => ⟨⟨R1, R3, k.swap⟩, hk.cell h.x, hk.cell h.y⟩⟩
def gotC (o : Option ClV) : ClV := o.getD ClV.none
theorem clV_got (o : Option ClV) : clV o = .tuple #[(gotC o).val, .bool o.isSome] := by cases o <;> rfl
theorem StepV.one {w : World} (x : StepV) (hm : x.m.rd w) : x.cells.toArray.all (·.oneCell') = true := by
  obtain ⟨x_on, x_self, x_now, x_sg, ⟨m_kd, m_to, m_dn, m_am, m_cl, m_cc, m_cn, m_cd, m_ch, m_ce, m_po, m_pe, m_ve, m_od, ⟨m_h_ch, m_h_ht, m_h_tm, m_h_vr, m_h_vv, m_h_vn, m_h_rt, m_h_va, m_h_nx⟩, ⟨m_o_ch, m_o_ht, m_o_tm, m_o_vr, m_o_vv, m_o_vn, m_o_rt, m_o_va, m_o_nx⟩, m_vs1, m_s1, m_vs2, m_s2, m_vs3, m_s3, m_vt1, m_t1, m_vt2, m_t2, m_ht, m_tm, m_at_, m_per, ⟨m_pk_src, m_pk_dst, m_pk_seq, m_pk_vd, m_pk_da, m_pk_ht, m_pk_tm⟩, m_vak, m_ak, m_vpf, ⟨m_pf_n, m_pf_l⟩, m_nx, ⟨m_pay_d, m_pay_x, m_pay_y, m_pay_z⟩, m_vos, m_os⟩⟩ := x
  dsimp only at hm
  have qm_h_vr : Rd w w.heap.size m_h_vr m_h_rt := hm.r_h.r
  have qm_h_vv : Rd w w.heap.size m_h_vv m_h_va := hm.r_h.v
  have qm_h_vn : Rd w w.heap.size m_h_vn m_h_nx := hm.r_h.n
  have qm_o_vr : Rd w w.heap.size m_o_vr m_o_rt := hm.r_o.r
  have qm_o_vv : Rd w w.heap.size m_o_vv m_o_va := hm.r_o.v
  have qm_o_vn : Rd w w.heap.size m_o_vn m_o_nx := hm.r_o.n
  have qm_vs1 : ValsAt w w.heap.size m_vs1 m_s1 := hm.r_s1
  have qm_vs2 : ValsAt w w.heap.size m_vs2 m_s2 := hm.r_s2
  have qm_vs3 : ValsAt w w.heap.size m_vs3 m_s3 := hm.r_s3
  have qm_vt1 : StrsAt w w.heap.size m_vt1 m_t1 := hm.r_t1
  have qm_vt2 : StrsAt w w.heap.size m_vt2 m_t2 := hm.r_t2
  have qm_pk_vd : Rd w w.heap.size m_pk_vd m_pk_da := hm.r_pk.d
  have qm_vak : Rd w w.heap.size m_vak m_ak := hm.r_ak
  have qm_vpf : LeavesV w w.heap.size m_vpf m_pf_l := hm.r_pf
  have qm_vos : OrdsAt w m_vos m_os := hm.r_os
  obtain ⟨Am_h_vr, Cm_h_vr, rfl⟩ := qm_h_vr.form
  obtain ⟨Am_h_vv, Cm_h_vv, rfl⟩ := qm_h_vv.form
  obtain ⟨Am_h_vn, Cm_h_vn, rfl⟩ := qm_h_vn.form
  obtain ⟨Am_o_vr, Cm_o_vr, rfl⟩ := qm_o_vr.form
  obtain ⟨Am_o_vv, Cm_o_vv, rfl⟩ := qm_o_vv.form
  obtain ⟨Am_o_vn, Cm_o_vn, rfl⟩ := qm_o_vn.form
  obtain ⟨Am_vs1, Cm_vs1, rfl⟩ := qm_vs1.form
  obtain ⟨Am_vs2, Cm_vs2, rfl⟩ := qm_vs2.form
  obtain ⟨Am_vs3, Cm_vs3, rfl⟩ := qm_vs3.form
  obtain ⟨Am_vt1, Cm_vt1, rfl⟩ := qm_vt1.form
  obtain ⟨Am_vt2, Cm_vt2, rfl⟩ := qm_vt2.form
  obtain ⟨Am_pk_vd, Cm_pk_vd, rfl⟩ := qm_pk_vd.form
  obtain ⟨Am_vak, Cm_vak, rfl⟩ := qm_vak.form
  obtain ⟨Am_vpf, Cm_vpf, rfl⟩ := qm_vpf.form
  obtain ⟨Am_vos, Cm_vos, rfl⟩ := qm_vos.form
  clear qm_h_vr qm_h_vv qm_h_vn qm_o_vr qm_o_vv qm_o_vn qm_vs1 qm_vs2 qm_vs3 qm_vt1 qm_vt2 qm_pk_vd qm_vak qm_vpf qm_vos
  simp [StepV.cells, MsgV.cells, Value.oneCell']
end Go.Proofs.YtmphegeiclgjbaaGreatDoor
namespace Go.Proofs.YtmphegeiclgjbaaGreatDoor
set_option maxRecDepth 100000
open Go.RowKit
theorem pTabName : Tryz.prog.globalNamed "internal/strconv.uint64pow10" = some 2 := by kernel_rfl
theorem pTabType : (Tryz.prog.globals[2]?).map (·.type) = some 216 := by kernel_rfl
theorem pTabUnd : Tryz.prog.underlying 216 = some (.array 20 29) := by kernel_rfl
theorem pTabElem : Tryz.prog.underlying 29 = some (.int .u64) := by kernel_rfl
theorem pTabCells : Tryz.prog.cellsOf 216 = 20 := by kernel_rfl
theorem pElemCells : Tryz.prog.cellsOf 29 = 1 := by kernel_rfl
theorem powsOf {W : World} (h : laidMetH Tryz.prog [("internal/strconv.uint64pow10", Rows.laid_internal_strconv_uint64pow10)] W) : Pows W :=
  Lib.tabIs_of_head (rest := []) pTabName pTabType pTabUnd pTabElem pElemCells pTabCells h
end Go.Proofs.YtmphegeiclgjbaaGreatDoor
namespace Go.Proofs.YtmphegeiclgjbaaGreatDoor
set_option maxRecDepth 100000
open Go Go.RowKit
set_option linter.unusedVariables false

def gotS (o : Option CsV) : CsV := o.getD ⟨0, [], []⟩
end Go.Proofs.YtmphegeiclgjbaaGreatDoor
namespace Go.Proofs.YtmphegeiclgjbaaGreatDoor
set_option maxRecDepth 100000
open Go Go.RowKit
set_option linter.unusedVariables false

end Go.Proofs.YtmphegeiclgjbaaGreatDoor
namespace Go.Proofs.YtmphegeiclgjbaaGreatDoor
set_option maxRecDepth 100000
open Go Go.RowKit
set_option linter.unusedVariables false

set_option maxHeartbeats 2000000 in
theorem mirror_any (id : ByteArray) (st : Nat) (cl cc ct : ByteArray) (sn : Nat) (w : World) :
    Calls Tryz.prog 122 #[.string id, .agg #[.int .u64 (st : Int), .string cl, .string cc, .string ct], .int .u64 (sn : Int)] w fun e w' => e = .returned (.agg #[.int .u64 (sn : Int), .string cc, .string cl, .string id]) ∧ Below w.heap.size w w' := by
  have hbox := heap_alloc_new w (.cells #[.int .u64 (st : Int), .string cl, .string cc, .string ct] 78)
  have ha0 : Below w.heap.size w (w.alloc (.cells #[.int .u64 (st : Int), .string cl, .string cc, .string ct] 78)) := (Below.refl _ _).alloc (Nat.le_refl _) _
  have ha1 := ha0.alloc ha0.size (.cells #[.int .u64 0, .string ⟨#[]⟩, .string ⟨#[]⟩, .string ⟨#[]⟩] 78)
  have k1 := (Below.heap_alloc (w.alloc (.cells #[.int .u64 (st : Int), .string cl, .string cc, .string ct] 78)) (.cells #[.int .u64 0, .string ⟨#[]⟩, .string ⟨#[]⟩, .string ⟨#[]⟩] 78) _ (blk_lt hbox)).trans hbox
  have m1 := heap_alloc_new (w.alloc (.cells #[.int .u64 (st : Int), .string cl, .string cc, .string ct] 78)) (.cells #[.int .u64 0, .string ⟨#[]⟩, .string ⟨#[]⟩, .string ⟨#[]⟩] 78)
  rw [show (w.alloc (.cells #[.int .u64 (st : Int), .string cl, .string cc, .string ct] 78)).heap.size = w.heap.size + 1 by simp] at m1
  generalize hW : (w.alloc (.cells #[.int .u64 (st : Int), .string cl, .string cc, .string ct] 78)).alloc (.cells #[.int .u64 0, .string ⟨#[]⟩, .string ⟨#[]⟩, .string ⟨#[]⟩] 78) = w1 at *
  have c1 := blk_cell k1 1
  have c2 := blk_cell k1 2
  have r0 := blk_cell m1 0
  have q0 := blk_free m1 0
  have r1 := blk_cell m1 1
  have q1 := blk_free m1 1
  have r2 := blk_cell m1 2
  have q2 := blk_free m1 2
  have r3 := blk_cell m1 3
  have q3 := blk_free m1 3
  have hk7 := set4P m1 (.int .u64 (sn : Int)) (.string cc) (.string cl) (.string id)
  have hb7 := below_set4P ha1 (show w.heap.size ≤ w.heap.size + 1 by omega) (.int .u64 (sn : Int)) (.string cc) (.string cl) (.string id)
  have HD := Lib.hid (And.intro (blk_cell hk7 0) (And.intro (blk_cell hk7 1) (And.intro (blk_cell hk7 2) (blk_cell hk7 3))))
  clear hk7 hbox k1 m1 ha0 ha1
  go_enter Tryz.func122, Tryz.ntmps122
  go_wp2_with fail
  try rw [hW]
  clear hW
  go_wp2_with fail
  obtain ⟨d0, d1, d2, d3⟩ := HD.out
  refine bodyPost_ret (v := .agg #[.int .u64 (sn : Int), .string cc, .string cl, .string id]) ?_ rfl ⟨rfl, hb7⟩
  simp at d0 d1 d2 d3
  simp [results, Tryz.results122, go_sem, d0, d1, d2, d3]
set_option maxHeartbeats 8000000 in
theorem cnshown_any {W w : World} {y : Lyr} {l : List Lyr} {R : List Pr} {k : Nat} (h : At W y l R k w) (by_ cconn : ByteArray) (hby : by_.size ≤ 100000000) (hcc : cconn.size ≤ 100000000) (o : CnV) (h_st : o.st < 18446744073709551616) (h_cl : o.cl.size ≤ maxLen) (h_c2 : o.cc.size ≤ maxLen) (h_ct : o.ct.size ≤ maxLen) (ht now : Nat) (h_ht : ht < 18446744073709551616) (h_now : now < 18446744073709551616)
    (n : Int) (A : Option Addr) (m c : Nat) (p : Pf) (hp : ∀ Z, Below w.heap.size w Z → ProofV Z Z.heap.size (.agg #[.int .i64 n, .slice A m c]) p)
    (fr : TypeId × Nat × Nat) (hk : w.heap[0]? = some (.cells kVals fr.1 fr.2)) :
    Calls Tryz.prog 121 #[.pointer (some ⟨y.b, 0, none⟩), .string by_, .string cconn, o.val, .int .u64 (ht : Int), .agg #[.int .i64 n, .slice A m c], .int .u64 (now : Int)] w fun e w' => e = .returned (.int .i64 (verifyE R by_ ht now (kConn cconn) (cnB o) p)) ∧ Below w.heap.size w w' := by
  have HB : Hid (∀ Z : World, Calls Tryz.prog 35 #[o.val] Z fun e w' => ∃ v', e = .returned v' ∧ Own w' Z.heap.size v' (cnB o) ∧ Below Z.heap.size Z w') := Lib.hid fun Z => cnbytes_any o Z h_st h_cl h_c2 h_ct
  have HK : Hid (∀ Z : World, Calls Tryz.prog 34 #[.string cconn] Z fun e w' => e = .returned (.string (kConn cconn)) ∧ Z = w') := Lib.hid fun Z => cnkey_any cconn Z hcc
  have HV : Hid (∀ (Z : World) (hz : Below w.heap.size w Z) (v : Value) (B : Nat) (ho : Own Z B v (cnB o)), Calls Tryz.prog 15 #[.pointer (some ⟨y.b, 0, none⟩), .string by_, .int .u64 (ht : Int), .string (kConn cconn), v, .agg #[.int .i64 n, .slice A m c], .int .u64 (now : Int)] Z fun e w' => e = .returned (.int .i64 (verifyE R by_ ht now (kConn cconn) (cnB o) p)) ∧ Below Z.heap.size Z w') :=
    Lib.hid fun Z hz v B ho => clverify_any (h.up hz) by_ ht now hby h_ht h_now (kConn cconn) v _ n A m c p (fun Z2 hz2 => hp Z2 (below_chain hz hz.size hz2)) ho.rd fr ((hz.block _ (blk_lt hk)).trans hk)
  obtain ⟨st, cl, cc, ct⟩ := o
  unfold CnV.val at *
  dsimp only at HB HV ⊢
  generalize verifyE R by_ ht now (kConn cconn) (cnB ⟨st, cl, cc, ct⟩) p = E at *
  generalize cnB ⟨st, cl, cc, ct⟩ = L1 at *
  generalize kConn cconn = key at *
  have hbox := heap_alloc_new w (.cells #[.int .u64 (st : Int), .string cl, .string cc, .string ct] 78)
  have ha0 : Below w.heap.size w (w.alloc (.cells #[.int .u64 (st : Int), .string cl, .string cc, .string ct] 78)) := (Below.refl _ _).alloc (Nat.le_refl _) _
  have ha1 := ha0.alloc ha0.size (.cells #[.int .i64 n, .slice A m c] 41)
  have k1 := (Below.heap_alloc (w.alloc (.cells #[.int .u64 (st : Int), .string cl, .string cc, .string ct] 78)) (.cells #[.int .i64 n, .slice A m c] 41) _ (blk_lt hbox)).trans hbox
  have m1 := heap_alloc_new (w.alloc (.cells #[.int .u64 (st : Int), .string cl, .string cc, .string ct] 78)) (.cells #[.int .i64 n, .slice A m c] 41)
  rw [show (w.alloc (.cells #[.int .u64 (st : Int), .string cl, .string cc, .string ct] 78)).heap.size = w.heap.size + 1 by simp] at m1
  generalize hW0 : (w.alloc (.cells #[.int .u64 (st : Int), .string cl, .string cc, .string ct] 78)).alloc (.cells #[.int .i64 n, .slice A m c] 41) = W0 at *
  have hl1 := blk_lt k1
  have hl2 := blk_lt m1
  generalize hgg : w.heap.size = g0 at *
  have HC : Hid (∀ Z, Below W0.heap.size W0 Z → Z.cell? ⟨g0, 0, none⟩ = some (.int .u64 (st : Int)) ∧ Z.cell? ⟨g0, 1, none⟩ = some (.string cl) ∧ Z.cell? ⟨g0, 2, none⟩ = some (.string cc) ∧ Z.cell? ⟨g0, 3, none⟩ = some (.string ct) ∧ Z.cell? ⟨g0 + 1, 0, none⟩ = some (.int .i64 n) ∧ Z.cell? ⟨g0 + 1, 1, none⟩ = some (.slice A m c)) := Lib.hid fun Z hz => ⟨blk_cell ((hz.block _ hl1).trans k1) 0, blk_cell ((hz.block _ hl1).trans k1) 1, blk_cell ((hz.block _ hl1).trans k1) 2, blk_cell ((hz.block _ hl1).trans k1) 3, blk_cell ((hz.block _ hl2).trans m1) 0, blk_cell ((hz.block _ hl2).trans m1) 1⟩
  have hkD : Below W0.heap.size W0 W0.drew := Below.drew (Below.refl _ _)
  have hs1 : g0 ≤ W0.heap.size := by rw [← hgg]; exact ha1.size
  have HV2 : Hid (∀ (Z : World) (hz : Below W0.heap.size W0 Z) (v : Value) (B : Nat) (ho : Own Z B v L1), Calls Tryz.prog 15 #[.pointer (some ⟨y.b, 0, none⟩), .string by_, .int .u64 (ht : Int), .string key, v, .agg #[.int .i64 n, .slice A m c], .int .u64 (now : Int)] Z fun e w' => e = .returned (.int .i64 E) ∧ Below Z.heap.size Z w') :=
    Lib.hid fun Z hz v B ho => HV.out Z (below_chain ha1 hs1 hz) v B ho
  clear hbox k1 m1 hl1 hl2 h hp hk HV ha0 h_st h_cl h_c2 h_ct
  go_enter Tryz.func121, Tryz.ntmps121
  go_wp2_with fail
  try rw [hgg]
  try rw [hW0]
  clear hW0
  go_region_held_law (fun Z => Z.cell? ⟨g0, 0, none⟩ = some (.int .u64 (st : Int)) ∧ Z.cell? ⟨g0, 1, none⟩ = some (.string cl) ∧ Z.cell? ⟨g0, 2, none⟩ = some (.string cc) ∧ Z.cell? ⟨g0, 3, none⟩ = some (.string ct) ∧ Z.cell? ⟨g0 + 1, 0, none⟩ = some (.int .i64 n) ∧ Z.cell? ⟨g0 + 1, 1, none⟩ = some (.slice A m c))
    (with_reducible first | exact HC.out _ hk2 | exact HC.out _ hk1 | exact HC.out _ hkD)
    ((first
      | (go_at_call 34; refine (HK.out _).mono ?_; rintro e w9 ⟨rfl, rfl⟩)
      | (go_at_call 35; refine (HB.out _).mono ?_; rintro e w1 ⟨v1, rfl, ho1, hb1⟩; have hk1 := below_chain hkD hkD.size hb1)
      | (go_at_call 15; refine (HV2.out _ hk1 _ _ ho1).mono ?_; rintro e w2 ⟨rfl, hb2⟩; have hk2 := below_chain hk1 hk1.size hb2)))
  all_goals
    have hfin := below_chain ha1 hs1 hk2
    go_wp2_with fail
    go_ret
    exact ⟨rfl, hfin⟩
def madeCn (R : List Pr) (c : CnV) : List Pr := setL (kConn (newID R sConn)) (cnB c) (newR R sConn)
def cnBeginE (R : List Pr) (id other : ByteArray) : Int := if (getCl R id).isSome = true then (if identB other = true then 0 else 40) else 100
end Go.Proofs.YtmphegeiclgjbaaGreatDoor
namespace Go.Proofs.YtmphegeiclgjbaaGreatDoor
set_option maxRecDepth 100000
open Go Go.RowKit
set_option linter.unusedVariables false

def zR32 : List UInt8 := List.replicate 32 0
def fixHd : HdV := ⟨⟨#[116, 119, 111]⟩, 5, 50, zR32, zR32, zR32⟩
def sClient3 : ByteArray := ⟨#[99, 108, 105, 101, 110, 116, 45, 51]⟩
def sClient7 : ByteArray := ⟨#[99, 108, 105, 101, 110, 116, 45, 55]⟩
def sConn1 : ByteArray := ⟨#[99, 111, 110, 110, 45, 49]⟩
def sCl0 : ByteArray := ⟨#[99, 108, 105, 101, 110, 116, 45, 48]⟩
def sCo0 : ByteArray := ⟨#[99, 111, 110, 110, 45, 48]⟩
def fixC1 : List Pr := createR [] fixHd 9
def fixC2 : List Pr := madeCn fixC1 ⟨1, sCl0, sClient3, ⟨#[]⟩⟩
def CnV.cs (v : CnV) : Array Value := #[.int .u64 (v.st : Int), .string v.cl, .string v.cc, .string v.ct]
end Go.Proofs.YtmphegeiclgjbaaGreatDoor
