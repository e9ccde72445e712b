
/- strconv.FormatUint at base 10: the decimal text of every number, over the table of powers of ten. The walk of a new identifier, whatever its number; of a client that is made, whatever its number. The walks of a key that isn't shown; of two stores that no other chain has touched; of what a message says of a header. The walk of a law's two stores, that no other chain has touched. The walk of a step of clients. A flag that is read without a fault is what was put. Clients behind steps: mathematics. A law's round over two stores: which store a step is for; what a client shows that is frozen. What the row's list gives: the table of the powers of ten. -/
import Derived.Test.YtmphegeiclgjbaaGreatDoorShfF
import Derived.Test.YtmphegeiclgjbaaGreatDoorIcaG0
import Derived.Lib.ItoaMem
import Derived.Lib.Walk
import Derived.WalkKit
import Derived.Test.YtmphegeiclgjbaaGreatDoorClnA1
import Derived.Test.YtmphegeiclgjbaaGreatDoorAtP
import Derived.Test.YtmphegeiclgjbaaGreatDoorClnN1
import Derived.Deep.MidRow
import Derived.Test.YtmphegeiclgjbaaGreatDoorWireR0
import Derived.Test.YtmphegeiclgjbaaGreatDoorClnF0
import Derived.Test.YtmphegeiclgjbaaGreatDoorRows
import Derived.Lib.LaidTab
import Derived.Deep.DeepHandedRow
import Derived.LaidSub
namespace Go.Proofs.YtmphegeiclgjbaaGreatDoor
set_option maxRecDepth 100000
open Go Go.RowKit
set_option linter.unusedVariables false

theorem below_growN (w : World) (k : Nat) (os : Array Obj) : Below w.heap.size w (Go.Sort.grow (w.drewN k) os) := by
  have hd : ∀ k, Below w.heap.size w (w.drewN k) := fun k => by
    induction k with
    | zero => rw [World.drewN_zero]; exact Below.refl _ _
    | succ k ih => exact ⟨ih.os, ih.tape, ih.output, ih.size, ih.block⟩
  have h := hd k
  refine ⟨h.os, h.tape, h.output, ?_, fun i hi => ?_⟩
  · show w.heap.size ≤ ((w.drewN k).heap ++ os).size
    rw [Array.size_append]
    exact Nat.le_trans h.size (Nat.le_add_right _ _)
  · show ((w.drewN k).heap ++ os)[i]? = w.heap[i]?
    rw [Array.getElem?_append_left (Nat.lt_of_lt_of_le hi h.size)]
    exact h.block i hi
theorem fin_posF (w : World) (o : Obj) (dk : Array UInt8) (k : Nat) : ∃ os, (Go.Sort.putRow (fun (b : UInt8) => Value.int .u8 (b.toNat : Int)) (w.alloc o) w.heap.size 0 dk).drewN k = Go.Sort.grow (w.drewN k) os := by
  rw [Go.Sort.alloc_eq_grow]
  obtain ⟨os', _, e⟩ := Go.Sort.putRow_grow_new (fun (b : UInt8) => Value.int .u8 (b.toNat : Int)) w #[o] w.heap.size 0 dk (Nat.le_refl _)
  exact ⟨os', by rw [e]; rfl⟩
theorem holds_zeroF (w : World) (T : TypeId) (nd : Nat) (hs : nd ≤ 24) : Go.Sort.Holds (fun (b : UInt8) => Value.int .u8 (b.toNat : Int)) (w.alloc (.cells Lib.zeros24 T)) w.heap.size 0 (Array.replicate nd (0 : UInt8)) := fun j hj => by
  have hj' : j < nd := by simpa using hj
  refine ⟨?_, World.frozen?_alloc_new _ _ _ _⟩
  rw [World.cell?_alloc_new, Lib.zeros24_at _ (by omega), getElem!_pos _ j hj]
  simp
set_option maxHeartbeats 6400000 in
theorem ifmtu_any (u : Nat) (hu64 : u < 18446744073709551616) (w : World) (htab : Lib.TabIs Tryz.prog w "internal/strconv.uint64pow10" .u64 Lib.pow10Tab) :
    Calls Tryz.prog 142 #[.int .u64 (u : Int), .int .i64 10] w fun e w' => e = .returned (.string (decB u)) ∧ Below w.heap.size w w' := by
  unfold decB
  by_cases hs : u < 100
  · have HS := Lib.hid (fun W => Tryz.internal_strconv_small u hs W)
    have i1 : (u : Int) < 100 := by omega
    have i2 : IntKind.i64.wrap (u : Int) = (u : Int) := by rw [IntKind.wrap_i64]; omega
    go_enter Tryz.func142, Tryz.ntmps142
    go_wp2_with fail
    refine (HS.out _).mono ?_
    rintro e w' ⟨rfl, rfl⟩
    go_wp2_with fail
    go_ret
    exact ⟨rfl, Below.refl _ _⟩
  · have hu1 : 1 ≤ u := by omega
    have i1 : ¬ (u : Int) < 100 := by omega
    have hnd20 : Lib.nDigits u ≤ 20 := by have := Lib.numDigits_eq u hu1 hu64; split at this <;> omega
    have hal : Tryz.prog.arrayLen 205 = 24 := by kernel_rfl
    have hsl1 : ∀ W, (Instr.sliceAt 205 (.pointer (some ⟨w.heap.size, 0, none⟩)) none (some (.int .i64 (Lib.nDigits u : Int))) none).run Tryz.prog W = .ok (.slice (some ⟨w.heap.size, 0, none⟩) (Lib.nDigits u) 24) W := fun W => by
      rw [run_sliceAt_array_h W 205 ⟨w.heap.size, 0, none⟩ Tryz.underlying205 .i64 (Lib.nDigits u : Int) (by omega) (by rw [hal]; omega)]
      go_simp
      first | done | omega | (rw [hal]; simp)
    have hH0 := holds_zeroF w 205 (Lib.nDigits u) (by omega)
    have hfmt := Tryz.internal_strconv_formatBase10 w.heap.size 0 24 u (Array.replicate (Lib.nDigits u) 0) (w.alloc (.cells Lib.zeros24 205)) hH0 (by rw [Array.size_replicate]; exact Lib.lt_pow_nDigits u) hu64 (by rw [Array.size_replicate]; omega)
    rw [Array.size_replicate] at hfmt
    have HF := Lib.hid hfmt
    have HH0 := Lib.hid hH0
    have HND := Lib.hid (fun W h => Tryz.internal_strconv_numDigits u hu1 hu64 W h)
    have HT := Lib.hid (Lib.tabIs_alloc htab (.cells Lib.zeros24 205))
    unfold Lib.zeros24 at HF HT
    clear hH0 hal hfmt htab
    go_enter Tryz.func142, Tryz.ntmps142
    go_wp2_with fail
    refine (HND.out _ HT.out).mono ?_
    rintro e w' ⟨rfl, rfl⟩
    go_wp2_with fail
    refine HF.out.mono ?_
    rintro e w' ⟨rfl, k, v', dk, rfl, hF⟩
    have hcv : (convert 32 9 (.slice (some ⟨w.heap.size, 0, none⟩) (Lib.nDigits u) 24)).run Tryz.prog ((Go.Sort.putRow (fun (b : UInt8) => Value.int .u8 (b.toNat : Int)) (w.alloc (.cells Lib.zeros24 205)) w.heap.size 0 dk).drewN k) = .ok (.string ⟨(Lib.decDigits u).toArray⟩) ((Go.Sort.putRow (fun (b : UInt8) => Value.int .u8 (b.toNat : Int)) (w.alloc (.cells Lib.zeros24 205)) w.heap.size 0 dk).drewN k) := by
      have h := run_convert_bytes_back (P := Tryz.prog) ((Go.Sort.putRow (fun (b : UInt8) => Value.int .u8 (b.toNat : Int)) (w.alloc (.cells Lib.zeros24 205)) w.heap.size 0 dk).drewN k) 32 9 5 ⟨w.heap.size, 0, none⟩ 24 (Lib.decDigits u) Tryz.underlying32 Tryz.underlying5 Tryz.underlying9 (fun j hj => by
        rw [Lib.row_is_numeral hF j hj, Lib.add_plain, World.cell?_drewN]
        exact Go.Sort.cell?_putRow (fun (b : UInt8) => Value.int .u8 (b.toNat : Int)) _ w.heap.size 0 _ dk HH0.out (by rw [hF.size, Array.size_replicate]) j (by rw [hF.size]; rw [Lib.decDigits_length] at hj; exact hj))
      rw [Lib.decDigits_length] at h
      exact h
    obtain ⟨os, eo⟩ := fin_posF w (.cells Lib.zeros24 205) dk k
    have hfin : Below w.heap.size w ((Go.Sort.putRow (fun (b : UInt8) => Value.int .u8 (b.toNat : Int)) (w.alloc (.cells Lib.zeros24 205)) w.heap.size 0 dk).drewN k) := by rw [eo]; exact below_growN w k os
    have HFI := Lib.hid hfin
    unfold Lib.zeros24 at hcv HFI
    clear hF eo hfin
    generalize (Go.Sort.putRow (fun (b : UInt8) => Value.int .u8 (b.toNat : Int)) (w.alloc (.cells _ 205)) w.heap.size 0 dk).drewN k = W2 at *
    go_wp2_with fail
    go_ret
    exact ⟨rfl, HFI.out⟩
theorem fmtu_any (u : Nat) (hu64 : u < 18446744073709551616) (w : World) (htab : Lib.TabIs Tryz.prog w "internal/strconv.uint64pow10" .u64 Lib.pow10Tab) :
    Calls Tryz.prog 131 #[.int .u64 (u : Int), .int .i64 10] w fun e w' => e = .returned (.string (decB u)) ∧ Below w.heap.size w w' := by
  have HI := Lib.hid (ifmtu_any u hu64 w htab)
  clear htab
  go_enter Tryz.func131, Tryz.ntmps131
  go_wp2_with fail
  refine HI.out.mono ?_
  rintro e w' ⟨rfl, hb⟩
  go_wp2_with fail
  go_ret
  exact ⟨rfl, hb⟩
end Go.Proofs.YtmphegeiclgjbaaGreatDoor
namespace Go.Proofs.YtmphegeiclgjbaaGreatDoor
set_option maxRecDepth 100000
open Go Go.RowKit
set_option linter.unusedVariables false

theorem tab_kept {w w' : World} {name : String} {k : IntKind} {zs : List Int} (h : Lib.TabIs Tryz.prog w name k zs) (hk : Kept w w') : Lib.TabIs Tryz.prog w' name k zs := by
  unfold Lib.TabIs World.var? at *
  cases hg : Tryz.prog.globalNamed name with
  | none => simp [hg] at h
  | some g =>
    simp only [hg, Option.bind_some] at h ⊢
    cases ho : w.heap[g]? with
    | none => rw [ho] at h; simp at h
    | some o =>
      cases o with
      | cells cs t fr => rw [hk.blockP ho]; rw [ho] at h; exact h
      | _ => rw [ho] at h; simp at h
/-- the table of the powers of ten -/
def Pows (w : World) : Prop := Lib.TabIs Tryz.prog w "internal/strconv.uint64pow10" .u64 Lib.pow10Tab
theorem Pows.kept {w w' : World} (h : Pows w) (hk : Kept w w') : Pows w' := tab_kept h hk
theorem decB_len (n : Nat) (hn : n < 18446744073709551616) : (decB n).size ≤ 20 := by
  have h : (decB n).size = (Lib.decDigits n).length := by unfold decB; simp [ByteArray.size]
  rw [h, Lib.decDigits_length]
  by_cases h1 : 1 ≤ n
  · have := Lib.numDigits_eq n h1 hn
    split at this <;> omega
  · have : n = 0 := by omega
    subst this
    decide +kernel
theorem newID_len (R : List Pr) (kind : ByteArray) : (newID R kind).size ≤ kind.size + 21 := by
  unfold newID
  rw [ByteArray.size_append, ByteArray.size_append, dash_size]
  have := decB_len (numN R kind) (rN_ltP _ _)
  omega
theorem newidU_any {W w : World} {y : Lyr} {l : List Lyr} {R : List Pr} {k : Nat} (h : At W y l R k w) (hn : y.n + k < maxLen) (kind : ByteArray) (hk : kind.size ≤ 1000) (hT : Pows w) :
    Calls Tryz.prog 96 #[.pointer (some ⟨y.b, 0, none⟩), .string kind] w fun e w' => e = .returned (.string (newID R kind)) ∧ At W y l (newR R kind) (k + 1) w' ∧ Kept w w' :=
  newid_gen h hn kind hk (by have := decB_len (numN R kind) (rN_ltP _ _); omega) fun Z hz => fmtu_any (numN R kind) (rN_ltP _ _) Z (hT.kept hz)
set_option maxHeartbeats 8000000 in
theorem clcreate_gen {W w : World} {y : Lyr} {l : List Lyr} {R : List Pr} {k : Nat} (h : At W y l R k w) (hn : y.n + k + 3 ≤ maxLen) (zid : (newID R sClient).size ≤ 1000) (HN0 : ∀ Z, Below w.heap.size w Z → Calls Tryz.prog 96 #[.pointer (some ⟨y.b, 0, none⟩), .string sClient] Z fun e w' => e = .returned (.string (newID R sClient)) ∧ At W y l (newR R sClient) (k + 1) w' ∧ Kept Z w') (H : HdV) (pe now : Nat) (vr vv vn : Value) (hr : Rd w w.heap.size vr H.rt) (hv : Rd w w.heap.size vv H.va) (hx : Rd w w.heap.size vn H.nx)
    (h_ch : H.ch.size ≤ 100000000) (h_ht : H.ht < 18446744073709551616) (h_tm : H.tm < 18446744073709551616) (h_pe : pe < 18446744073709551616) :
    Calls Tryz.prog 47 #[.pointer (some ⟨y.b, 0, none⟩), .agg #[.string H.ch, .int .u64 (H.ht : Int), .int .u64 (H.tm : Int), vr, vv, vn], .int .u64 (pe : Int), .int .u64 (now : Int)] w fun e w' => e = .returned (.tuple #[.string (if createE H pe now = 0 then newID R sClient else ⟨#[]⟩), .int .i64 (createE H pe now)]) ∧ At W y l (if createE H pe now = 0 then createR R H pe else R) (k + 3) w' ∧ Kept w w' := by
  obtain ⟨ch, ht, tm, rt, va, nx⟩ := H
  dsimp only at *
  have z4 : sClient.size = 6 := rfl
  have HI : Hid (∀ Z : World, Calls Tryz.prog 49 #[.string ch] Z fun e w' => e = .returned (.bool (identB ch)) ∧ Z = w') := Lib.hid fun Z => ident_any ch Z (by unfold maxLen; omega)
  have HA := Lib.hid (fun Z : World => ahead_any tm now Z h_tm)
  have hz0 : ∀ Z, Below w.heap.size w Z → Rd Z Z.heap.size vr rt ∧ Rd Z Z.heap.size vv va ∧ Rd Z Z.heap.size vn nx := fun Z hz => ⟨hr.up (Nat.le_refl _) hz, hv.up (Nat.le_refl _) hz, hx.up (Nat.le_refl _) hz⟩
  have HT0 : Hid (∀ Z R', At W y l R' (k + 2) Z → Kept w Z → Calls Tryz.prog 74 #[.pointer (some ⟨y.b, 0, none⟩), .string (newID R sClient), .agg #[.string ch, .int .u64 (ht : Int), .int .u64 (tm : Int), vr, vv, vn]] Z fun e w' => e = .returned (.tuple #[]) ∧ At W y l (setL (kCons (newID R sClient) ht) (csB ⟨tm, rt, nx⟩) R') (k + 2 + 1) w' ∧ Kept Z w') :=
    Lib.hid fun Z R' hA hz => cltrust_any hA (by omega) _ (by omega) ch ht tm vr vv vn rt va nx (hz.rd hr) (hz.rd hv) (hz.rd hx) h_ht h_tm
  have HP0 : Hid (∀ Z, At W y l (newR R sClient) (k + 1) Z → Calls Tryz.prog 75 #[.pointer (some ⟨y.b, 0, none⟩), .string (newID R sClient), .agg #[.string ch, .int .u64 (ht : Int), .int .u64 (pe : Int), .bool false]] Z fun e w' => e = .returned (.tuple #[]) ∧ At W y l (setL (kCli (newID R sClient)) (clB ⟨ch, ht, pe, false⟩) (newR R sClient)) (k + 1 + 1) w' ∧ Kept Z w') :=
    Lib.hid fun Z hA => clput_any hA (by omega) _ (by omega) ⟨ch, ht, pe, false⟩ (by show ch.size ≤ _; unfold maxLen; omega) h_ht h_pe
  have hform : (HdV.mk ch ht tm rt va nx).formed = (decide (rt.length = 32) && (decide (va.length = 32) && decide (nx.length = 32))) := rfl
  obtain ⟨Ar, cr, rfl⟩ := hr.form
  obtain ⟨Av, cv, rfl⟩ := hv.form
  obtain ⟨An, cn, rfl⟩ := hx.form
  unfold createE createR
  dsimp only
  rw [hform]
  clear hform hr hv hx hz0
  generalize rt.length = nr at *
  generalize va.length = nv at *
  generalize nx.length = nn at *
  have hbox := heap_alloc_new w (.cells #[.string ch, .int .u64 (ht : Int), .int .u64 (tm : Int), .slice Ar nr cr, .slice Av nv cv, .slice An nn cn] 34)
  have ha0 : Below w.heap.size w (w.alloc (.cells #[.string ch, .int .u64 (ht : Int), .int .u64 (tm : Int), .slice Ar nr cr, .slice Av nv cv, .slice An nn cn] 34)) := (Below.refl _ _).alloc (Nat.le_refl _) _
  have HF := Lib.hid (fun Z : World => formed_any ch ht tm Ar Av An nr cr nv cv nn cn Z)
  have HN := Lib.hid HN0
  have HUP := Lib.hid (fun (Z : World) (hz : Below w.heap.size w Z) => (h.up hz).more (show k ≤ k + 3 by omega))
  generalize hW0 : w.alloc (.cells #[.string ch, .int .u64 (ht : Int), .int .u64 (tm : Int), .slice Ar nr cr, .slice Av nv cv, .slice An nn cn] 34) = w0 at *
  have e1 : ∀ n : Nat, ((n : Int) == 0) = decide (n = 0) := fun n => by
    by_cases h : n = 0
    · subst h; rfl
    · rw [decide_eq_false h]; simp; omega
  have f1 := e1 ht
  have f2 := e1 pe
  clear e1 h zid z4 HN0 h_tm h_pe h_ht h_ch hn
  generalize hR3 : setL (kCons (newID R sClient) ht) (csB ⟨tm, rt, nx⟩) (setL (kCli (newID R sClient)) (clB ⟨ch, ht, pe, false⟩) (newR R sClient)) = R3 at *
  have HR3 := Lib.hid hR3
  clear hR3
  have q0 := blk_cell hbox 0
  have q1 := blk_cell hbox 1
  have q2 := blk_cell hbox 2
  have q3 := blk_cell hbox 3
  have q4 := blk_cell hbox 4
  have q5 := blk_cell hbox 5
  unfold sClient at HN
  cases hb1 : identB ch with
  | false =>
    simp only [Bool.false_eq_true, if_false, if_neg (show ¬ (40 : Int) = 0 by decide)]
    rw [hb1] at HI
    go_enter Tryz.func47, Tryz.ntmps47
    go_wp2_with fail
    try rw [hW0]
    clear hW0
    refine (HI.out _).mono ?_
    rintro e w1 ⟨rfl, rfl⟩
    go_wp2_with fail
    go_ret2
    exact ⟨rfl, HUP.out _ ha0, Kept.of_belowX ha0⟩
  | true =>
    rw [hb1] at HI
    by_cases h2 : ht = 0
    · have g2 : decide (ht = 0) = true := decide_eq_true h2
      rw [g2] at f1
      simp only [if_true, if_pos h2, if_neg (show ¬ (104 : Int) = 0 by decide)]
      clear g2 h2
      go_enter Tryz.func47, Tryz.ntmps47
      go_wp2_with fail
      try rw [hW0]
      clear hW0
      refine (HI.out _).mono ?_
      rintro e w1 ⟨rfl, rfl⟩
      go_wp2_with fail
      go_ret2
      exact ⟨rfl, HUP.out _ ha0, Kept.of_belowX ha0⟩
    · have g2 : decide (ht = 0) = false := decide_eq_false h2
      rw [g2] at f1
      cases h3 : aheadB tm now with
      | true =>
        rw [h3] at HA
        simp only [if_true, if_neg h2, if_neg (show ¬ (105 : Int) = 0 by decide)]
        clear g2 h2
        go_enter Tryz.func47, Tryz.ntmps47
        go_wp2_with fail
        try rw [hW0]
        clear hW0
        refine (HI.out _).mono ?_
        rintro e w1 ⟨rfl, rfl⟩
        go_wp2_with fail
        refine (HA.out _).mono ?_
        rintro e w1 ⟨rfl, rfl⟩
        go_wp2_with fail
        go_ret2
        exact ⟨rfl, HUP.out _ ha0, Kept.of_belowX ha0⟩
      | false =>
        rw [h3] at HA
        by_cases h4 : pe = 0
        · have g4 : decide (pe = 0) = true := decide_eq_true h4
          rw [g4] at f2
          simp only [if_true, if_neg h2, Bool.false_eq_true, if_false, if_pos h4, if_neg (show ¬ (2 : Int) = 0 by decide)]
          clear g2 h2 g4 h4
          go_enter Tryz.func47, Tryz.ntmps47
          go_wp2_with fail
          try rw [hW0]
          clear hW0
          refine (HI.out _).mono ?_
          rintro e w1 ⟨rfl, rfl⟩
          go_wp2_with fail
          refine (HA.out _).mono ?_
          rintro e w1 ⟨rfl, rfl⟩
          go_wp2_with fail
          go_ret2
          exact ⟨rfl, HUP.out _ ha0, Kept.of_belowX ha0⟩
        · have g4 : decide (pe = 0) = false := decide_eq_false h4
          rw [g4] at f2
          cases h5 : (decide (nr = 32) && (decide (nv = 32) && decide (nn = 32))) with
          | false =>
            rw [h5] at HF
            simp only [if_true, if_neg h2, Bool.false_eq_true, if_false, if_neg h4, if_neg (show ¬ (21 : Int) = 0 by decide)]
            clear g2 h2 g4 h4 h5
            go_enter Tryz.func47, Tryz.ntmps47
            go_wp2_with fail
            try rw [hW0]
            clear hW0
            refine (HI.out _).mono ?_
            rintro e w1 ⟨rfl, rfl⟩
            go_wp2_with fail
            refine (HA.out _).mono ?_
            rintro e w1 ⟨rfl, rfl⟩
            go_wp2_with fail
            refine (HF.out _).mono ?_
            rintro e w2 ⟨rfl, hb2⟩
            have b2 := below_chain ha0 ha0.size hb2
            go_wp2_with fail
            go_ret2
            exact ⟨rfl, HUP.out _ b2, Kept.of_belowX b2⟩
          | true =>
            rw [h5] at HF
            simp only [if_true, if_neg h2, Bool.false_eq_true, if_false, if_neg h4]
            clear g2 h2 g4 h4 h5
            go_enter Tryz.func47, Tryz.ntmps47
            go_wp2_with fail
            try rw [hW0]
            clear hW0
            refine (HI.out _).mono ?_
            rintro e w1 ⟨rfl, rfl⟩
            go_wp2_with fail
            refine (HA.out _).mono ?_
            rintro e w1 ⟨rfl, rfl⟩
            go_wp2_with fail
            refine (HF.out _).mono ?_
            rintro e w2 ⟨rfl, hb2⟩
            have b2 := below_chain ha0 ha0.size hb2
            have k2 := (hb2.block _ (blk_lt hbox)).trans hbox
            have HN2 := Lib.hid (HN.out _ b2)
            have HK2 := Lib.hid k2
            have HB2 := Lib.hid b2
            clear HI HA HF HN HUP q0 q1 q2 q3 q4 q5 hb2 ha0 hbox k2 b2
            go_wp2_with fail
            refine HN2.out.mono ?_
            rintro e w3 ⟨rfl, A3, hk3⟩
            have HP3 := Lib.hid (HP0.out _ A3)
            have c0 := hk3.cell (blk_cell HK2.out 0)
            have c1 := hk3.cell (blk_cell HK2.out 1)
            clear HN2 HP0 A3
            go_wp2_with fail
            refine HP3.out.mono ?_
            rintro e w4 ⟨rfl, A4, hk4⟩
            have hk24 := hk3.transX hk4
            have hkw := (Kept.of_belowX HB2.out).transX hk24
            have HT4 := Lib.hid (HT0.out _ _ A4 hkw)
            have c0 := hk24.cell (blk_cell HK2.out 0)
            have c1 := hk24.cell (blk_cell HK2.out 1)
            have c2 := hk24.cell (blk_cell HK2.out 2)
            have c3 := hk24.cell (blk_cell HK2.out 3)
            have c4 := hk24.cell (blk_cell HK2.out 4)
            have c5 := hk24.cell (blk_cell HK2.out 5)
            clear HP3 HT0 A4 hk3 hk4 hk24
            go_wp2_with fail
            refine HT4.out.mono ?_
            rintro e w5 ⟨rfl, A5, hk5⟩
            have hkf := hkw.transX hk5
            go_wp2_with fail
            go_ret2
            exact ⟨rfl, by rw [← HR3.out]; exact A5, hkf⟩
theorem clcreateU_any {W w : World} {y : Lyr} {l : List Lyr} {R : List Pr} {k : Nat} (h : At W y l R k w) (hn : y.n + k + 3 ≤ maxLen) (hT : Pows w) (H : HdV) (pe now : Nat) (vr vv vn : Value) (hr : Rd w w.heap.size vr H.rt) (hv : Rd w w.heap.size vv H.va) (hx : Rd w w.heap.size vn H.nx)
    (h_ch : H.ch.size ≤ 100000000) (h_ht : H.ht < 18446744073709551616) (h_tm : H.tm < 18446744073709551616) (h_pe : pe < 18446744073709551616) :
    Calls Tryz.prog 47 #[.pointer (some ⟨y.b, 0, none⟩), .agg #[.string H.ch, .int .u64 (H.ht : Int), .int .u64 (H.tm : Int), vr, vv, vn], .int .u64 (pe : Int), .int .u64 (now : Int)] w fun e w' => e = .returned (.tuple #[.string (if createE H pe now = 0 then newID R sClient else ⟨#[]⟩), .int .i64 (createE H pe now)]) ∧ At W y l (if createE H pe now = 0 then createR R H pe else R) (k + 3) w' ∧ Kept w w' :=
  clcreate_gen h hn (by have := newID_len R sClient; have z : sClient.size = 6 := rfl; omega) (fun Z hz => newidU_any (h.up hz) (by omega) sClient (by decide +kernel) (hT.kept (Kept.of_belowX hz))) H pe now vr vv vn hr hv hx h_ch h_ht h_tm h_pe
end Go.Proofs.YtmphegeiclgjbaaGreatDoor
namespace Go.Proofs.YtmphegeiclgjbaaGreatDoor
set_option maxRecDepth 100000
open Go Go.RowKit
set_option linter.unusedVariables false

def absentE (R : List Pr) (id : ByteArray) (ht now : Nat) (key : ByteArray) (p : Pf) : Int :=
  if (showM R id ht now).2 = 0 then (if absentB (showM R id ht now).1 key p = true then 0 else 61) else (showM R id ht now).2
set_option maxHeartbeats 4000000 in
theorem clabsent_any {W w : World} {y : Lyr} {l : List Lyr} {R : List Pr} {k : Nat} (h : At W y l R k w) (id : ByteArray) (ht now : Nat) (hid : id.size ≤ 100000000) (h_ht : ht < 18446744073709551616) (h_now : now < 18446744073709551616)
    (key : ByteArray) (hks : key.size ≤ maxLen) (n : Int) (A : Option Addr) (m c : Nat) (p : Pf) (hp : ∀ Z, Below w.heap.size w Z → ProofV Z Z.heap.size (.agg #[.int .i64 n, .slice A m c]) p)
    (fr : TypeId × Nat × Nat) (hk : w.heap[0]? = some (.cells kVals fr.1 fr.2)) :
    Calls Tryz.prog 16 #[.pointer (some ⟨y.b, 0, none⟩), .string id, .int .u64 (ht : Int), .string key, .agg #[.int .i64 n, .slice A m c], .int .u64 (now : Int)] w fun e w' => e = .returned (.int .i64 (absentE R id ht now key p)) ∧ Below w.heap.size w w' := by
  have hbox := heap_alloc_new w (.cells #[.int .i64 n, .slice A m c] 41)
  have ha0 : Below w.heap.size w (w.alloc (.cells #[.int .i64 n, .slice A m c] 41)) := (Below.refl _ _).alloc (Nat.le_refl _) _
  have HS := Lib.hid (showing_any (h.up ha0) id ht now hid h_ht h_now)
  have HV : Hid (∀ (Z : World) (hz : Below w.heap.size w Z) (rv : Value) (B : Nat) (ho : Own Z B rv (showM R id ht now).1), Calls Tryz.prog 23 #[rv, .string key, .agg #[.int .i64 n, .slice A m c]] Z fun e w' => e = .returned (.bool (absentB (showM R id ht now).1 key p)) ∧ Below Z.heap.size Z w') :=
    Lib.hid fun Z hz rv B ho => absent_any rv _ key _ p Z hks ho.rd (hp Z hz) fr ((hz.block _ (blk_lt hk)).trans hk)
  generalize hW0 : w.alloc (.cells #[.int .i64 n, .slice A m c] 41) = w0 at *
  have hl0 := blk_lt hbox
  unfold absentE
  generalize absentB (showM R id ht now).1 key p = vb at *
  generalize showM R id ht now = SM at *
  obtain ⟨root, E⟩ := SM
  dsimp only at *
  obtain ⟨B, hB⟩ : ∃ B : Addr, B = ⟨y.b, 0, none⟩ := ⟨_, rfl⟩
  rw [← hB] at HS ⊢
  clear hB h h_now h_ht hid hp hk
  by_cases hE : E = 0
  · subst hE
    rw [if_pos rfl]
    cases vb with
    | true =>
      rw [if_pos rfl]
      go_enter Tryz.func16, Tryz.ntmps16
      go_wp2_with fail
      try rw [hW0]
      clear hW0
      refine HS.out.mono ?_
      rintro e w1 ⟨rv, rfl, hor, hb1⟩
      have b1 := below_chain ha0 ha0.size hb1
      have HV1 := Lib.hid (HV.out _ b1 _ _ hor)
      have k1 := (hb1.block _ hl0).trans hbox
      have c0 := blk_cell k1 0
      have c1 := blk_cell k1 1
      obtain ⟨Ax, cx, rfl⟩ := hor.form
      generalize root.length = nroot at *
      clear HS HV hor ha0 hbox hl0 hb1 k1
      go_wp2_with fail
      refine HV1.out.mono ?_
      rintro e w2 ⟨rfl, hb2⟩
      have b2 := below_chain b1 b1.size hb2
      go_wp2_with fail
      go_ret
      exact ⟨rfl, b2⟩
    | false =>
      rw [if_neg (by simp)]
      go_enter Tryz.func16, Tryz.ntmps16
      go_wp2_with fail
      try rw [hW0]
      clear hW0
      refine HS.out.mono ?_
      rintro e w1 ⟨rv, rfl, hor, hb1⟩
      have b1 := below_chain ha0 ha0.size hb1
      have HV1 := Lib.hid (HV.out _ b1 _ _ hor)
      have k1 := (hb1.block _ hl0).trans hbox
      have c0 := blk_cell k1 0
      have c1 := blk_cell k1 1
      obtain ⟨Ax, cx, rfl⟩ := hor.form
      generalize root.length = nroot at *
      clear HS HV hor ha0 hbox hl0 hb1 k1
      go_wp2_with fail
      refine HV1.out.mono ?_
      rintro e w2 ⟨rfl, hb2⟩
      have b2 := below_chain b1 b1.size hb2
      go_wp2_with fail
      go_ret
      exact ⟨rfl, b2⟩
  · have he : (E != 0) = true := by simpa using hE
    rw [if_neg hE]
    clear HV hbox hl0 hE
    go_enter Tryz.func16, Tryz.ntmps16
    go_wp2_with fail
    try rw [hW0]
    clear hW0
    refine HS.out.mono ?_
    rintro e w1 ⟨rv, rfl, hor, hb1⟩
    have b1 := below_chain ha0 ha0.size hb1
    obtain ⟨Ax, cx, rfl⟩ := hor.form
    clear HS hor
    go_wp2_with fail
    go_ret
    exact ⟨rfl, b1⟩
/-! ### what a message says -/
theorem LeavesV.form {w : World} {B : Nat} {v : Value} {ls : List Lf} (h : LeavesV w B v ls) : ∃ A c, v = .slice A ls.length c := by obtain ⟨A, c, h, _⟩ := h; exact ⟨A, c, h⟩
theorem OrdsAt.form {w : World} {v : Value} {ls : List OrdV} (h : OrdsAt w v ls) : ∃ A c, v = .slice A ls.length c := by obtain ⟨A, c, h, _⟩ := h; exact ⟨A, c, h⟩
def nwOf (m : MsgV) : NwW := ⟨m.h, m.vs1, m.s1, m.vs3, m.s3, m.vt1, m.t1, m.at_⟩
def nw2Of (m : MsgV) : NwW := ⟨m.o, m.vs2, m.s2, m.vs3, m.s3, m.vt2, m.t2, m.at_⟩
theorem nwOf_rd {m : MsgV} {w : World} (h : m.rd w) (hs : m.small 1048576) : (nwOf m).rd w := ⟨h.r_h, h.r_s1, h.r_s3, h.r_t1, h.lt_at_, hs.l _ (by simp [MsgV.lens, nwOf]), hs.l _ (by simp [MsgV.lens, nwOf])⟩
theorem nw2Of_rd {m : MsgV} {w : World} (h : m.rd w) (hs : m.small 1048576) : (nw2Of m).rd w := ⟨h.r_o, h.r_s2, h.r_s3, h.r_t2, h.lt_at_, hs.l _ (by simp [MsgV.lens, nw2Of]), hs.l _ (by simp [MsgV.lens, nw2Of])⟩
set_option maxHeartbeats 4000000 in
theorem clnews_any (m : MsgV) (w : World) (hm : m.rd w) : Calls Tryz.prog 24 #[.agg m.cells.toArray] w fun e w' => e = .returned (nwOf m).val ∧ Below w.heap.size w w' := by
  obtain ⟨m_kd, m_to, m_dn, m_am, m_cl, m_cc, m_cn, m_cd, m_ch, m_ce, m_po, m_pe, m_ve, m_od, ⟨m_h_ch, m_h_ht, m_h_tm, m_h_vr, m_h_vv, m_h_vn, m_h_rt, m_h_va, m_h_nx⟩, ⟨m_o_ch, m_o_ht, m_o_tm, m_o_vr, m_o_vv, m_o_vn, m_o_rt, m_o_va, m_o_nx⟩, m_vs1, m_s1, m_vs2, m_s2, m_vs3, m_s3, m_vt1, m_t1, m_vt2, m_t2, m_ht, m_tm, m_at_, m_per, ⟨m_pk_src, m_pk_dst, m_pk_seq, m_pk_vd, m_pk_da, m_pk_ht, m_pk_tm⟩, m_vak, m_ak, m_vpf, ⟨m_pf_n, m_pf_l⟩, m_nx, ⟨m_pay_d, m_pay_x, m_pay_y, m_pay_z⟩, m_vos, m_os⟩ := m
  have qm_h_vr : Rd w w.heap.size m_h_vr m_h_rt := hm.r_h.r
  have qm_h_vv : Rd w w.heap.size m_h_vv m_h_va := hm.r_h.v
  have qm_h_vn : Rd w w.heap.size m_h_vn m_h_nx := hm.r_h.n
  have qm_o_vr : Rd w w.heap.size m_o_vr m_o_rt := hm.r_o.r
  have qm_o_vv : Rd w w.heap.size m_o_vv m_o_va := hm.r_o.v
  have qm_o_vn : Rd w w.heap.size m_o_vn m_o_nx := hm.r_o.n
  have qm_vs1 : ValsAt w w.heap.size m_vs1 m_s1 := hm.r_s1
  have qm_vs2 : ValsAt w w.heap.size m_vs2 m_s2 := hm.r_s2
  have qm_vs3 : ValsAt w w.heap.size m_vs3 m_s3 := hm.r_s3
  have qm_vt1 : StrsAt w w.heap.size m_vt1 m_t1 := hm.r_t1
  have qm_vt2 : StrsAt w w.heap.size m_vt2 m_t2 := hm.r_t2
  have qm_pk_vd : Rd w w.heap.size m_pk_vd m_pk_da := hm.r_pk.d
  have qm_vak : Rd w w.heap.size m_vak m_ak := hm.r_ak
  have qm_vpf : LeavesV w w.heap.size m_vpf m_pf_l := hm.r_pf
  have qm_vos : OrdsAt w m_vos m_os := hm.r_os
  obtain ⟨Am_h_vr, Cm_h_vr, rfl⟩ := qm_h_vr.form
  obtain ⟨Am_h_vv, Cm_h_vv, rfl⟩ := qm_h_vv.form
  obtain ⟨Am_h_vn, Cm_h_vn, rfl⟩ := qm_h_vn.form
  obtain ⟨Am_o_vr, Cm_o_vr, rfl⟩ := qm_o_vr.form
  obtain ⟨Am_o_vv, Cm_o_vv, rfl⟩ := qm_o_vv.form
  obtain ⟨Am_o_vn, Cm_o_vn, rfl⟩ := qm_o_vn.form
  obtain ⟨Am_vs1, Cm_vs1, rfl⟩ := qm_vs1.form
  obtain ⟨Am_vs2, Cm_vs2, rfl⟩ := qm_vs2.form
  obtain ⟨Am_vs3, Cm_vs3, rfl⟩ := qm_vs3.form
  obtain ⟨Am_vt1, Cm_vt1, rfl⟩ := qm_vt1.form
  obtain ⟨Am_vt2, Cm_vt2, rfl⟩ := qm_vt2.form
  obtain ⟨Am_pk_vd, Cm_pk_vd, rfl⟩ := qm_pk_vd.form
  obtain ⟨Am_vak, Cm_vak, rfl⟩ := qm_vak.form
  obtain ⟨Am_vpf, Cm_vpf, rfl⟩ := qm_vpf.form
  obtain ⟨Am_vos, Cm_vos, rfl⟩ := qm_vos.form
  clear qm_h_vr qm_h_vv qm_h_vn qm_o_vr qm_o_vv qm_o_vn qm_vs1 qm_vs2 qm_vs3 qm_vt1 qm_vt2 qm_pk_vd qm_vak qm_vpf qm_vos
  unfold MsgV.cells nwOf NwW.val
  dsimp only
  clear hm
  have b1 : Below w.heap.size w (w.alloc (.cells #[.int .i64 m_kd, .string m_to, .string m_dn, .int .u64 (m_am.a : Int), .int .u64 (m_am.b : Int), .int .u64 (m_am.c : Int), .int .u64 (m_am.d : Int), .string m_cl, .string m_cc, .string m_cn, .string m_cd, .string m_ch, .string m_ce, .string m_po, .string m_pe, .string m_ve, .bool m_od, .string m_h_ch, .int .u64 (m_h_ht : Int), .int .u64 (m_h_tm : Int), .slice Am_h_vr m_h_rt.length Cm_h_vr, .slice Am_h_vv m_h_va.length Cm_h_vv, .slice Am_h_vn m_h_nx.length Cm_h_vn, .string m_o_ch, .int .u64 (m_o_ht : Int), .int .u64 (m_o_tm : Int), .slice Am_o_vr m_o_rt.length Cm_o_vr, .slice Am_o_vv m_o_va.length Cm_o_vv, .slice Am_o_vn m_o_nx.length Cm_o_vn, .slice Am_vs1 m_s1.length Cm_vs1, .slice Am_vs2 m_s2.length Cm_vs2, .slice Am_vs3 m_s3.length Cm_vs3, .slice Am_vt1 m_t1.length Cm_vt1, .slice Am_vt2 m_t2.length Cm_vt2, .int .u64 (m_ht : Int), .int .u64 (m_tm : Int), .int .u64 (m_at_ : Int), .int .u64 (m_per : Int), .string m_pk_src, .string m_pk_dst, .int .u64 (m_pk_seq : Int), .slice Am_pk_vd m_pk_da.length Cm_pk_vd, .int .u64 (m_pk_ht : Int), .int .u64 (m_pk_tm : Int), .slice Am_vak m_ak.length Cm_vak, .int .i64 m_pf_n, .slice Am_vpf m_pf_l.length Cm_vpf, .int .u64 (m_nx : Int), .string m_pay_d, .int .u64 (m_pay_x.a : Int), .int .u64 (m_pay_x.b : Int), .int .u64 (m_pay_x.c : Int), .int .u64 (m_pay_x.d : Int), .int .u64 (m_pay_y.a : Int), .int .u64 (m_pay_y.b : Int), .int .u64 (m_pay_y.c : Int), .int .u64 (m_pay_y.d : Int), .int .u64 (m_pay_z.a : Int), .int .u64 (m_pay_z.b : Int), .int .u64 (m_pay_z.c : Int), .int .u64 (m_pay_z.d : Int), .slice Am_vos m_os.length Cm_vos] 46)) := (Below.refl _ _).alloc (Nat.le_refl _) _
  have b2 := b1.alloc b1.size (.cells #[.string m_h_ch, .int .u64 (m_h_ht : Int), .int .u64 (m_h_tm : Int), .slice Am_h_vr m_h_rt.length Cm_h_vr, .slice Am_h_vv m_h_va.length Cm_h_vv, .slice Am_h_vn m_h_nx.length Cm_h_vn, .slice Am_vs1 m_s1.length Cm_vs1, .slice Am_vs3 m_s3.length Cm_vs3, .slice Am_vt1 m_t1.length Cm_vt1, .int .u64 (m_at_ : Int)] 68)
  have d := heap_alloc_new (w.alloc (.cells #[.int .i64 m_kd, .string m_to, .string m_dn, .int .u64 (m_am.a : Int), .int .u64 (m_am.b : Int), .int .u64 (m_am.c : Int), .int .u64 (m_am.d : Int), .string m_cl, .string m_cc, .string m_cn, .string m_cd, .string m_ch, .string m_ce, .string m_po, .string m_pe, .string m_ve, .bool m_od, .string m_h_ch, .int .u64 (m_h_ht : Int), .int .u64 (m_h_tm : Int), .slice Am_h_vr m_h_rt.length Cm_h_vr, .slice Am_h_vv m_h_va.length Cm_h_vv, .slice Am_h_vn m_h_nx.length Cm_h_vn, .string m_o_ch, .int .u64 (m_o_ht : Int), .int .u64 (m_o_tm : Int), .slice Am_o_vr m_o_rt.length Cm_o_vr, .slice Am_o_vv m_o_va.length Cm_o_vv, .slice Am_o_vn m_o_nx.length Cm_o_vn, .slice Am_vs1 m_s1.length Cm_vs1, .slice Am_vs2 m_s2.length Cm_vs2, .slice Am_vs3 m_s3.length Cm_vs3, .slice Am_vt1 m_t1.length Cm_vt1, .slice Am_vt2 m_t2.length Cm_vt2, .int .u64 (m_ht : Int), .int .u64 (m_tm : Int), .int .u64 (m_at_ : Int), .int .u64 (m_per : Int), .string m_pk_src, .string m_pk_dst, .int .u64 (m_pk_seq : Int), .slice Am_pk_vd m_pk_da.length Cm_pk_vd, .int .u64 (m_pk_ht : Int), .int .u64 (m_pk_tm : Int), .slice Am_vak m_ak.length Cm_vak, .int .i64 m_pf_n, .slice Am_vpf m_pf_l.length Cm_vpf, .int .u64 (m_nx : Int), .string m_pay_d, .int .u64 (m_pay_x.a : Int), .int .u64 (m_pay_x.b : Int), .int .u64 (m_pay_x.c : Int), .int .u64 (m_pay_x.d : Int), .int .u64 (m_pay_y.a : Int), .int .u64 (m_pay_y.b : Int), .int .u64 (m_pay_y.c : Int), .int .u64 (m_pay_y.d : Int), .int .u64 (m_pay_z.a : Int), .int .u64 (m_pay_z.b : Int), .int .u64 (m_pay_z.c : Int), .int .u64 (m_pay_z.d : Int), .slice Am_vos m_os.length Cm_vos] 46)) (.cells #[.string m_h_ch, .int .u64 (m_h_ht : Int), .int .u64 (m_h_tm : Int), .slice Am_h_vr m_h_rt.length Cm_h_vr, .slice Am_h_vv m_h_va.length Cm_h_vv, .slice Am_h_vn m_h_nx.length Cm_h_vn, .slice Am_vs1 m_s1.length Cm_vs1, .slice Am_vs3 m_s3.length Cm_vs3, .slice Am_vt1 m_t1.length Cm_vt1, .int .u64 (m_at_ : Int)] 68)
  rw [show (w.alloc (.cells #[.int .i64 m_kd, .string m_to, .string m_dn, .int .u64 (m_am.a : Int), .int .u64 (m_am.b : Int), .int .u64 (m_am.c : Int), .int .u64 (m_am.d : Int), .string m_cl, .string m_cc, .string m_cn, .string m_cd, .string m_ch, .string m_ce, .string m_po, .string m_pe, .string m_ve, .bool m_od, .string m_h_ch, .int .u64 (m_h_ht : Int), .int .u64 (m_h_tm : Int), .slice Am_h_vr m_h_rt.length Cm_h_vr, .slice Am_h_vv m_h_va.length Cm_h_vv, .slice Am_h_vn m_h_nx.length Cm_h_vn, .string m_o_ch, .int .u64 (m_o_ht : Int), .int .u64 (m_o_tm : Int), .slice Am_o_vr m_o_rt.length Cm_o_vr, .slice Am_o_vv m_o_va.length Cm_o_vv, .slice Am_o_vn m_o_nx.length Cm_o_vn, .slice Am_vs1 m_s1.length Cm_vs1, .slice Am_vs2 m_s2.length Cm_vs2, .slice Am_vs3 m_s3.length Cm_vs3, .slice Am_vt1 m_t1.length Cm_vt1, .slice Am_vt2 m_t2.length Cm_vt2, .int .u64 (m_ht : Int), .int .u64 (m_tm : Int), .int .u64 (m_at_ : Int), .int .u64 (m_per : Int), .string m_pk_src, .string m_pk_dst, .int .u64 (m_pk_seq : Int), .slice Am_pk_vd m_pk_da.length Cm_pk_vd, .int .u64 (m_pk_ht : Int), .int .u64 (m_pk_tm : Int), .slice Am_vak m_ak.length Cm_vak, .int .i64 m_pf_n, .slice Am_vpf m_pf_l.length Cm_vpf, .int .u64 (m_nx : Int), .string m_pay_d, .int .u64 (m_pay_x.a : Int), .int .u64 (m_pay_x.b : Int), .int .u64 (m_pay_x.c : Int), .int .u64 (m_pay_x.d : Int), .int .u64 (m_pay_y.a : Int), .int .u64 (m_pay_y.b : Int), .int .u64 (m_pay_y.c : Int), .int .u64 (m_pay_y.d : Int), .int .u64 (m_pay_z.a : Int), .int .u64 (m_pay_z.b : Int), .int .u64 (m_pay_z.c : Int), .int .u64 (m_pay_z.d : Int), .slice Am_vos m_os.length Cm_vos] 46)).heap.size = w.heap.size + 1 by simp] at d
  have HD := Lib.hid (And.intro d b2)
  clear b1 b2 d
  go_enter Tryz.func24, Tryz.ntmps24
  go_wp2_with fail
  obtain ⟨d, b2⟩ := HD.out
  generalize (w.alloc (.cells #[.int .i64 m_kd, .string m_to, .string m_dn, .int .u64 (m_am.a : Int), .int .u64 (m_am.b : Int), .int .u64 (m_am.c : Int), .int .u64 (m_am.d : Int), .string m_cl, .string m_cc, .string m_cn, .string m_cd, .string m_ch, .string m_ce, .string m_po, .string m_pe, .string m_ve, .bool m_od, .string m_h_ch, .int .u64 (m_h_ht : Int), .int .u64 (m_h_tm : Int), .slice Am_h_vr m_h_rt.length Cm_h_vr, .slice Am_h_vv m_h_va.length Cm_h_vv, .slice Am_h_vn m_h_nx.length Cm_h_vn, .string m_o_ch, .int .u64 (m_o_ht : Int), .int .u64 (m_o_tm : Int), .slice Am_o_vr m_o_rt.length Cm_o_vr, .slice Am_o_vv m_o_va.length Cm_o_vv, .slice Am_o_vn m_o_nx.length Cm_o_vn, .slice Am_vs1 m_s1.length Cm_vs1, .slice Am_vs2 m_s2.length Cm_vs2, .slice Am_vs3 m_s3.length Cm_vs3, .slice Am_vt1 m_t1.length Cm_vt1, .slice Am_vt2 m_t2.length Cm_vt2, .int .u64 (m_ht : Int), .int .u64 (m_tm : Int), .int .u64 (m_at_ : Int), .int .u64 (m_per : Int), .string m_pk_src, .string m_pk_dst, .int .u64 (m_pk_seq : Int), .slice Am_pk_vd m_pk_da.length Cm_pk_vd, .int .u64 (m_pk_ht : Int), .int .u64 (m_pk_tm : Int), .slice Am_vak m_ak.length Cm_vak, .int .i64 m_pf_n, .slice Am_vpf m_pf_l.length Cm_vpf, .int .u64 (m_nx : Int), .string m_pay_d, .int .u64 (m_pay_x.a : Int), .int .u64 (m_pay_x.b : Int), .int .u64 (m_pay_x.c : Int), .int .u64 (m_pay_x.d : Int), .int .u64 (m_pay_y.a : Int), .int .u64 (m_pay_y.b : Int), .int .u64 (m_pay_y.c : Int), .int .u64 (m_pay_y.d : Int), .int .u64 (m_pay_z.a : Int), .int .u64 (m_pay_z.b : Int), .int .u64 (m_pay_z.c : Int), .int .u64 (m_pay_z.d : Int), .slice Am_vos m_os.length Cm_vos] 46)).alloc (.cells #[.string m_h_ch, .int .u64 (m_h_ht : Int), .int .u64 (m_h_tm : Int), .slice Am_h_vr m_h_rt.length Cm_h_vr, .slice Am_h_vv m_h_va.length Cm_h_vv, .slice Am_h_vn m_h_nx.length Cm_h_vn, .slice Am_vs1 m_s1.length Cm_vs1, .slice Am_vs3 m_s3.length Cm_vs3, .slice Am_vt1 m_t1.length Cm_vt1, .int .u64 (m_at_ : Int)] 68) = W2 at *
  have d0 := blk_cell d 0
  have d1 := blk_cell d 1
  have d2 := blk_cell d 2
  have d3 := blk_cell d 3
  have d4 := blk_cell d 4
  have d5 := blk_cell d 5
  have d6 := blk_cell d 6
  have d7 := blk_cell d 7
  have d8 := blk_cell d 8
  have d9 := blk_cell d 9
  refine bodyPost_ret (v := .agg #[.string m_h_ch, .int .u64 (m_h_ht : Int), .int .u64 (m_h_tm : Int), .slice Am_h_vr m_h_rt.length Cm_h_vr, .slice Am_h_vv m_h_va.length Cm_h_vv, .slice Am_h_vn m_h_nx.length Cm_h_vn, .slice Am_vs1 m_s1.length Cm_vs1, .slice Am_vs3 m_s3.length Cm_vs3, .slice Am_vt1 m_t1.length Cm_vt1, .int .u64 (m_at_ : Int)]) ?_ rfl ⟨rfl, b2⟩
  simp at d0 d1 d2 d3 d4 d5 d6 d7 d8 d9
  simp [results, Tryz.results24, go_sem, d0, d1, d2, d3, d4, d5, d6, d7, d8, d9]
/-! ### two stores, side by side -/
structure Sts (w : World) (b m b' m' : Nat) (R R' : List Pr) (N : Nat) (Z : World) : Prop where
  a : ∃ n f, n ≤ N ∧ PileS Z [⟨b, m, n, f⟩] ∧ SeenL ⟨#[]⟩ [⟨b, m, n, f⟩] R
  c : ∃ n f, n ≤ N ∧ PileS Z [⟨b', m', n, f⟩] ∧ SeenL ⟨#[]⟩ [⟨b', m', n, f⟩] R'
  ne : m ≠ m'
  lo : w.heap.size ≤ m
  lo' : w.heap.size ≤ m'
  bel : Below w.heap.size w Z
section
variable {w Z Z' : World} {b m b' m' N k : Nat} {R R' R2 : List Pr}
theorem Sts.swap (h : Sts w b m b' m' R R' N Z) : Sts w b' m' b m R' R N Z := ⟨h.c, h.a, h.ne.symm, h.lo', h.lo, h.bel⟩
theorem Sts.up (h : Sts w b m b' m' R R' N Z) (hb : Below Z.heap.size Z Z') : Sts w b m b' m' R R' N Z' := by
  obtain ⟨n, f, h1, h2, h3⟩ := h.a
  obtain ⟨n', f', k1, k2, k3⟩ := h.c
  exact ⟨⟨n, f, h1, h2.up hb, h3⟩, ⟨n', f', k1, k2.up hb, k3⟩, h.ne, h.lo, h.lo', h.bel.trans (hb.mono h.bel.size)⟩
theorem Sts.more {N' : Nat} (h : Sts w b m b' m' R R' N Z) (hN : N ≤ N') : Sts w b m b' m' R R' N' Z := by
  obtain ⟨n, f, h1, h2, h3⟩ := h.a
  obtain ⟨n', f', k1, k2, k3⟩ := h.c
  exact ⟨⟨n, f, by omega, h2, h3⟩, ⟨n', f', by omega, k2, k3⟩, h.ne, h.lo, h.lo', h.bel⟩
theorem Sts.at (h : Sts w b m b' m' R R' N Z) : ∃ n f, n ≤ N ∧ At Z ⟨b, m, n, f⟩ [] R 0 Z := by
  obtain ⟨n, f, h1, h2, h3⟩ := h.a
  exact ⟨n, f, h1, BankS.refl h2 h3, h2⟩
theorem Sts.step {n : Nat} {f : LF} (h : Sts w b m b' m' R R' N Z) (hn : n ≤ N) (A : At Z ⟨b, m, n, f⟩ [] R2 k Z') : Sts w b m b' m' R2 R' (N + k) Z' := by
  obtain ⟨n', f', h1, h2, h3, h4⟩ := A.b
  obtain ⟨n2, f2, k1, k2, k3⟩ := h.c
  dsimp only at h1 h2 h3 h4
  refine ⟨⟨n', f', by omega, h1, h2⟩, ⟨n2, f2, by omega, ?_, k3⟩, h.ne, h.lo, h.lo', h.bel.trans (A.below (B := w.heap.size) h.lo h.bel.size)⟩
  exact k2.chg h4 A.p.1.maps fun z hz e => by
    rw [List.mem_singleton.1 hz] at e
    exact h.ne e.symm
theorem Sts.rise (h : Sts w b m b' m' R R' N Z) : Rise R := by obtain ⟨n, f, h1, h2, h3⟩ := h.a; exact h3.rise
end
end Go.Proofs.YtmphegeiclgjbaaGreatDoor
namespace Go.Proofs.YtmphegeiclgjbaaGreatDoor
set_option maxRecDepth 100000
open Go Go.RowKit
set_option linter.unusedVariables false

section
variable {w Z Z' : World} {b m b' m' N g : Nat} {R R' : List Pr} {cs : Array Value} {t : TypeId}
theorem Sts.offB (h : Sts w b m b' m' R R' N Z) (hg : Z.grownBy Z' (some g)) (hi : Z.heap[g]? = some (.cells cs t (0, 0))) (hno : ∀ (j : Nat) (z : Int), cs[j]? ≠ some (.int .u8 z)) (h0 : cs[0]? ≠ some (.pointer (some ⟨g, 0, none⟩))) (hw : w.heap.size ≤ g) : Sts w b m b' m' R R' N Z' := by
  obtain ⟨n, f, h1, h2, h3⟩ := h.a
  obtain ⟨n', f', k1, k2, k3⟩ := h.c
  exact ⟨⟨n, f, h1, h2.offB hg hi hno h0, h3⟩, ⟨n', f', k1, k2.offB hg hi hno h0, k3⟩, h.ne, h.lo, h.lo', h.bel.grown hg h.bel.size fun k e => by injection e with e; omega⟩
theorem Sts.made {w w1 w2 : World} {y1 y2 : Lyr} {ps1 ps2 : List Pr} (hb1 : Below w.heap.size w w1) (hm1 : w.heap.size ≤ y1.m) (hp1 : PileS w1 [y1]) (hl1 : LyrIs ps1 y1) (hr1 : Rise ps1) (hs1 : ∀ p ∈ ps1, p.1.size ≤ maxLen) (e1 : y1.n = ps1.length) (l1 : ps1.length ≤ N)
    (hb2 : Below w1.heap.size w1 w2) (hm2 : w1.heap.size ≤ y2.m) (hp2 : PileS w2 [y2]) (hl2 : LyrIs ps2 y2) (hr2 : Rise ps2) (hs2 : ∀ p ∈ ps2, p.1.size ≤ maxLen) (e2 : y2.n = ps2.length) (l2 : ps2.length ≤ N) : Sts w y1.b y1.m y2.b y2.m ps1 ps2 N w2 := by
  have A1 := At.made hp1 hl1 hr1 hs1
  have A2 := At.made hp2 hl2 hr2 hs2
  obtain ⟨n, f, h1, h2, h3, h4⟩ := A1.b
  obtain ⟨n', f', k1, k2, k3, k4⟩ := A2.b
  have hlt := (hp1.lt y1 (by simp)).2
  exact ⟨⟨n, f, by omega, h1.up hb2, h2⟩, ⟨n', f', by omega, k1, k2⟩, by omega, hm1, Nat.le_trans hb1.size hm2, hb1.trans (hb2.mono hb1.size)⟩
end
theorem grown_set2B (w : World) (b : Nat) (u v : Value) : w.grownBy ((w.setCell ⟨b, 0, none⟩ u).setCell ⟨b, 1, none⟩ v) (some b) :=
  (grown_setCellB w b 0 u).trans (grown_setCellB _ b 1 v)
set_option maxHeartbeats 8000000 in
theorem clstores_any (w : World) (v1 v2 : Value) (ps1 ps2 : List Pr) (h1 : RdP w w.heap.size v1 ps1) (h2 : RdP w w.heap.size v2 ps2) (n1 : ∀ p ∈ ps1, p.1.size ≤ maxLen) (n2 : ∀ p ∈ ps2, p.1.size ≤ maxLen) (l1 : ps1.length ≤ 2000000) (l2 : ps2.length ≤ 2000000) :
    Calls Tryz.prog 11 #[v1, v2] w fun e w' => ∃ p1 p2 ok, e = .returned (.tuple #[.agg #[.pointer p1, .pointer p2], .bool ok]) ∧ Below w.heap.size w w' ∧ (ok = true → ∃ b1 m1 b2 m2, p1 = some ⟨b1, 0, none⟩ ∧ p2 = some ⟨b2, 0, none⟩ ∧ Sts w b1 m1 b2 m2 ps1 ps2 2000000 w' ∧ ps1.filter (fun p => begB ibcP p.1) = [] ∧ ps2.filter (fun p => begB ibcP p.1) = []) := by
  have HN1 := Lib.hid (fun (Z : World) (hz : Below w.heap.size w Z) => new_any Z v1 ps1 (h1.keptP (Kept.of_belowX hz)) n1)
  have HN2 := Lib.hid (fun (Z : World) (hz : Below w.heap.size w Z) => new_any Z v2 ps2 (h2.keptP (Kept.of_belowX hz)) n2)
  have HL := Lib.hid (And.intro (And.intro n1 n2) (And.intro l1 l2))
  obtain ⟨A1, c1, rfl⟩ : ∃ A c, v1 = .slice A ps1.length c := by obtain ⟨A, c, h, _⟩ := h1; exact ⟨A, c, h⟩
  obtain ⟨A2, c2, rfl⟩ : ∃ A c, v2 = .slice A ps2.length c := by obtain ⟨A, c, h, _⟩ := h2; exact ⟨A, c, h⟩
  have hbox := heap_alloc_new w (.cells #[.pointer none, .pointer none] 25)
  have ha0 : Below w.heap.size w (w.alloc (.cells #[.pointer none, .pointer none] 25)) := (Below.refl _ _).alloc (Nat.le_refl _) _
  clear h1 h2 n1 n2 l1 l2
  go_enter Tryz.func11, Tryz.ntmps11
  go_wp2_with fail
  generalize hW0 : w.alloc (.cells #[.pointer none, .pointer none] 25) = W0 at *
  generalize hgg : w.heap.size = g0 at *
  have HBX := Lib.hid hbox
  have HA0 := Lib.hid (And.intro ha0 hgg)
  have HT : Hid (∀ Z1 Z2, Below g0 w Z1 → Below Z1.heap.size Z1 Z2 → Below g0 w Z2) := Lib.hid fun Z1 Z2 h k => h.trans (k.mono (by rw [← hgg]; exact h.size))
  clear hbox ha0 hW0 hgg
  refine (HN1.out _ HA0.out.1).mono ?_
  rintro e w1 ⟨⟨ho1, rfl⟩ | ⟨ho1, y1, rfl, hyb1, hym1, hyn1, hly1, hri1, hp1⟩, hb1⟩
  · have hq1 := HT.out _ _ HA0.out.1 hb1
    have hk1 := (hb1.block _ (blk_lt HBX.out)).trans HBX.out
    have HQ1 := Lib.hid (And.intro hq1 hk1)
    clear HN1 ho1 hb1 hq1 hk1
    go_wp2_with fail
    refine (HN2.out _ HQ1.out.1).mono ?_
    rintro e w2 ⟨⟨ho2, rfl⟩ | ⟨ho2, y2, rfl, -, -, -, -, -, -⟩, hb2⟩
    · have hq2 := HT.out _ _ HQ1.out.1 hb2
      have hk2 := (hb2.block _ (blk_lt HQ1.out.2)).trans HQ1.out.2
      clear HN2 ho2 hb2 HQ1
      have r0 : w2.cell? ⟨g0, 0, none⟩ = some (.pointer none) := blk_cell hk2 0
      have r1 : w2.cell? ⟨g0, 1, none⟩ = some (.pointer none) := blk_cell hk2 1
      have f0 := blk_free hk2 0
      have f1 := blk_free hk2 1
      have HQX := Lib.hid (And.intro hq2 hk2)
      clear hq2 hk2
      go_wp2_with fail
      have d := set2P HQX.out.2 (.pointer (none)) (.pointer (none))
      have d0 := blk_cell d 0
      have d1 := blk_cell d 1
      refine bodyPost_ret (v := .tuple #[.agg #[.pointer (none), .pointer (none)], .bool false]) ?_ rfl ⟨_, _, _, rfl, ?_, ?_⟩
      · simp at d0 d1
        simp [results, Tryz.results11, go_sem, d0, d1]
      · rw [HA0.out.2]
        exact below_set2P HQX.out.1 (Nat.le_refl _) _ _
      · intro h
        cases h
    · have hq2 := HT.out _ _ HQ1.out.1 hb2
      have hk2 := (hb2.block _ (blk_lt HQ1.out.2)).trans HQ1.out.2
      clear HN2 ho2 hb2 HQ1
      have r0 : w2.cell? ⟨g0, 0, none⟩ = some (.pointer none) := blk_cell hk2 0
      have r1 : w2.cell? ⟨g0, 1, none⟩ = some (.pointer none) := blk_cell hk2 1
      have f0 := blk_free hk2 0
      have f1 := blk_free hk2 1
      have HQX := Lib.hid (And.intro hq2 hk2)
      clear hq2 hk2
      go_wp2_with fail
      have d := set2P HQX.out.2 (.pointer (none)) (.pointer (some ⟨y2.b, 0, none⟩))
      have d0 := blk_cell d 0
      have d1 := blk_cell d 1
      refine bodyPost_ret (v := .tuple #[.agg #[.pointer (none), .pointer (some ⟨y2.b, 0, none⟩)], .bool false]) ?_ rfl ⟨_, _, _, rfl, ?_, ?_⟩
      · simp at d0 d1
        simp [results, Tryz.results11, go_sem, d0, d1]
      · rw [HA0.out.2]
        exact below_set2P HQX.out.1 (Nat.le_refl _) _ _
      · intro h
        cases h
  · have hq1 := HT.out _ _ HA0.out.1 hb1
    have hk1 := (hb1.block _ (blk_lt HBX.out)).trans HBX.out
    have HQ1 := Lib.hid (And.intro hq1 hk1)
    have HY1 := Lib.hid (And.intro hym1 (And.intro hyn1 (And.intro hly1 (And.intro hri1 (And.intro hp1 hb1)))))
    obtain ⟨y1b, y1m, y1n, y1f⟩ := y1
    dsimp only at hyb1 ⊢
    have HYB := Lib.hid hyb1
    clear HN1 ho1 hb1 hq1 hk1 hyb1 hym1 hyn1 hly1 hri1 hp1
    go_wp2_with fail
    refine (HN2.out _ HQ1.out.1).mono ?_
    rintro e w2 ⟨⟨ho2, rfl⟩ | ⟨ho2, y2, rfl, hyb2, hym2, hyn2, hly2, hri2, hp2⟩, hb2⟩
    · have hq2 := HT.out _ _ HQ1.out.1 hb2
      have hk2 := (hb2.block _ (blk_lt HQ1.out.2)).trans HQ1.out.2
      clear HN2 ho2 hb2 HQ1
      have r0 : w2.cell? ⟨g0, 0, none⟩ = some (.pointer none) := blk_cell hk2 0
      have r1 : w2.cell? ⟨g0, 1, none⟩ = some (.pointer none) := blk_cell hk2 1
      have f0 := blk_free hk2 0
      have f1 := blk_free hk2 1
      have HQX := Lib.hid (And.intro hq2 hk2)
      clear hq2 hk2
      go_wp2_with fail
      have d := set2P HQX.out.2 (.pointer (some ⟨y1b, 0, none⟩)) (.pointer (none))
      have d0 := blk_cell d 0
      have d1 := blk_cell d 1
      refine bodyPost_ret (v := .tuple #[.agg #[.pointer (some ⟨y1b, 0, none⟩), .pointer (none)], .bool false]) ?_ rfl ⟨_, _, _, rfl, ?_, ?_⟩
      · simp at d0 d1
        simp [results, Tryz.results11, go_sem, d0, d1]
      · rw [HA0.out.2]
        exact below_set2P HQX.out.1 (Nat.le_refl _) _ _
      · intro h
        cases h
    · have hS := Sts.made (w := w) (N := 2000000) (by rw [HA0.out.2]; exact HQ1.out.1) (y1 := ⟨y1b, y1m, y1n, y1f⟩) (by dsimp only; exact Nat.le_trans (by rw [HA0.out.2]; have := HA0.out.1.size; rw [HA0.out.2] at this; exact this) HY1.out.1) HY1.out.2.2.2.2.1 HY1.out.2.2.1 HY1.out.2.2.2.1 HL.out.1.1 HY1.out.2.1 HL.out.2.1 hb2 hym2 hp2 hly2 hri2 HL.out.1.2 hyn2 HL.out.2.2
      obtain ⟨y2b, y2m, y2n, y2f⟩ := y2
      dsimp only at hS hyb2 ⊢
      have hq2 := HT.out _ _ HQ1.out.1 hb2
      have hk2 := (hb2.block _ (blk_lt HQ1.out.2)).trans HQ1.out.2
      have HQ2 := Lib.hid (And.intro hq2 hk2)
      obtain ⟨n1, f1', hn1, hA1⟩ := hS.at
      obtain ⟨L1, hL1⟩ : ∃ L, L = ps1.filter (fun p => begB ibcP p.1) := ⟨_, rfl⟩
      have HP1 := Lib.hid (hA1.pairs (show n1 + 0 + 0 ≤ 1000000000 by omega) ibcP (by decide +kernel))
      rw [← hL1] at HP1
      have HL1 := Lib.hid hL1
      have HS2 := Lib.hid hS
      unfold ibcP at HP1
      clear HN2 ho2 hb2 HQ1 hq2 hk2 hyb2 hym2 hyn2 hly2 hri2 hp2 hS hn1 hA1 hL1 HY1 HYB
      go_wp2_with fail
      refine HP1.out.mono ?_
      rintro e w3 ⟨v3, rfl, ho3, hb3⟩
      obtain ⟨A3, c3, rfl⟩ := ho3.form
      have hS3 := HS2.out.up hb3
      have hq3 := HT.out _ _ HQ2.out.1 hb3
      have hk3 := (hb3.block _ (blk_lt HQ2.out.2)).trans HQ2.out.2
      clear HP1 ho3 hb3 HQ2 HS2
      by_cases z1 : L1.length = 0
      rotate_left
      · have i1 : ((L1.length : Int) == 0) = false := beq_eq_false_iff_ne.2 (by omega)
        have i2 : ¬ (L1.length : Int) = 0 := by omega
        have hk2 := hk3
        have hq2 := hq3
        clear hS3 z1 hq3 hk3
        generalize L1.length = n1 at *
        have r0 : w3.cell? ⟨g0, 0, none⟩ = some (.pointer none) := blk_cell hk2 0
        have r1 : w3.cell? ⟨g0, 1, none⟩ = some (.pointer none) := blk_cell hk2 1
        have f0 := blk_free hk2 0
        have f1 := blk_free hk2 1
        have HQX := Lib.hid (And.intro hq2 hk2)
        clear hq2 hk2
        go_wp2_with fail
        have d := set2P HQX.out.2 (.pointer (some ⟨y1b, 0, none⟩)) (.pointer (some ⟨y2b, 0, none⟩))
        have d0 := blk_cell d 0
        have d1 := blk_cell d 1
        refine bodyPost_ret (v := .tuple #[.agg #[.pointer (some ⟨y1b, 0, none⟩), .pointer (some ⟨y2b, 0, none⟩)], .bool false]) ?_ rfl ⟨_, _, _, rfl, ?_, ?_⟩
        · simp at d0 d1
          simp [results, Tryz.results11, go_sem, d0, d1]
        · rw [HA0.out.2]
          exact below_set2P HQX.out.1 (Nat.le_refl _) _ _
        · intro h
          cases h
      rw [z1]
      have HZ1 := Lib.hid (HL1.out.symm.trans (List.length_eq_zero_iff.1 z1))
      have HQ3 := Lib.hid (And.intro hq3 hk3)
      obtain ⟨n2, f2', hn2, hA2⟩ := hS3.swap.at
      obtain ⟨L2, hL2⟩ : ∃ L, L = ps2.filter (fun p => begB ibcP p.1) := ⟨_, rfl⟩
      have HP2 := Lib.hid (hA2.pairs (show n2 + 0 + 0 ≤ 1000000000 by omega) ibcP (by decide +kernel))
      rw [← hL2] at HP2
      have HL2 := Lib.hid hL2
      have HS3 := Lib.hid hS3
      unfold ibcP at HP2
      clear z1 hq3 hk3 hn2 hA2 hL2 hS3
      go_wp2_with fail
      refine HP2.out.mono ?_
      rintro e w4 ⟨v4, rfl, ho4, hb4⟩
      obtain ⟨A4, c4, rfl⟩ := ho4.form
      have hS4 := HS3.out.up hb4
      have hq2 := HT.out _ _ HQ3.out.1 hb4
      have hk2 := (hb4.block _ (blk_lt HQ3.out.2)).trans HQ3.out.2
      have HS4 := Lib.hid hS4
      clear HP2 ho4 hb4 HQ3 HS3 hS4
      by_cases z2 : L2.length = 0
      rotate_left
      · have i1 : ((L2.length : Int) == 0) = false := beq_eq_false_iff_ne.2 (by omega)
        have i2 : ¬ (L2.length : Int) = 0 := by omega
        clear z2
        generalize L2.length = n1 at *
        have r0 : w4.cell? ⟨g0, 0, none⟩ = some (.pointer none) := blk_cell hk2 0
        have r1 : w4.cell? ⟨g0, 1, none⟩ = some (.pointer none) := blk_cell hk2 1
        have f0 := blk_free hk2 0
        have f1 := blk_free hk2 1
        have HQX := Lib.hid (And.intro hq2 hk2)
        clear hq2 hk2
        go_wp2_with fail
        have d := set2P HQX.out.2 (.pointer (some ⟨y1b, 0, none⟩)) (.pointer (some ⟨y2b, 0, none⟩))
        have d0 := blk_cell d 0
        have d1 := blk_cell d 1
        refine bodyPost_ret (v := .tuple #[.agg #[.pointer (some ⟨y1b, 0, none⟩), .pointer (some ⟨y2b, 0, none⟩)], .bool false]) ?_ rfl ⟨_, _, _, rfl, ?_, ?_⟩
        · simp at d0 d1
          simp [results, Tryz.results11, go_sem, d0, d1]
        · rw [HA0.out.2]
          exact below_set2P HQX.out.1 (Nat.le_refl _) _ _
        · intro h
          cases h
      rw [z2]
      have HZ2 := Lib.hid (HL2.out.symm.trans (List.length_eq_zero_iff.1 z2))
      clear z2
      have r0 : w4.cell? ⟨g0, 0, none⟩ = some (.pointer none) := blk_cell hk2 0
      have r1 : w4.cell? ⟨g0, 1, none⟩ = some (.pointer none) := blk_cell hk2 1
      have f0 := blk_free hk2 0
      have f1 := blk_free hk2 1
      have HQX := Lib.hid (And.intro hq2 hk2)
      clear hq2 hk2
      go_wp2_with fail
      have d := set2P HQX.out.2 (.pointer (some ⟨y1b, 0, none⟩)) (.pointer (some ⟨y2b, 0, none⟩))
      have d0 := blk_cell d 0
      have d1 := blk_cell d 1
      refine bodyPost_ret (v := .tuple #[.agg #[.pointer (some ⟨y1b, 0, none⟩), .pointer (some ⟨y2b, 0, none⟩)], .bool true]) ?_ rfl ⟨_, _, _, rfl, ?_, ?_⟩
      · simp at d0 d1
        simp [results, Tryz.results11, go_sem, d0, d1]
      · rw [HA0.out.2]
        exact below_set2P HQX.out.1 (Nat.le_refl _) _ _
      · intro _
        refine ⟨y1b, y1m, y2b, y2m, rfl, rfl, ?_, HZ1.out, HZ2.out⟩
        exact HS4.out.offB (grown_set2B _ g0 _ _) HQX.out.2 (fun j z e => by match j, e with | 0, e => cases e | 1, e => cases e | j + 2, e => simp at e) (fun e => by cases e) (by rw [HA0.out.2]; exact Nat.le_refl _)
end Go.Proofs.YtmphegeiclgjbaaGreatDoor
namespace Go.Proofs.YtmphegeiclgjbaaGreatDoor
set_option maxRecDepth 100000
open Go Go.RowKit
set_option linter.unusedVariables false

def hdOf (h : HdW) : HdV := ⟨h.ch, h.ht, h.tm, h.rt, h.va, h.nx⟩
def stepM14 (R : List Pr) (x : StepV) : Int × List Pr :=
  if x.m.kd = 2 then (createE (hdOf x.m.h) x.m.per x.now, if createE (hdOf x.m.h) x.m.per x.now = 0 then createR R (hdOf x.m.h) x.m.per else R)
  else if x.m.kd = 3 then updM R x.m.cl (nwOf x.m) x.now
  else if x.m.kd = 4 then misM R x.m.cl (nwOf x.m) (nw2Of x.m) x.now
  else (83, R)
theorem below_setCellsT {B : Nat} {w w' : World} {b : Nat} (h : Below B w w') (hb : B ≤ b) : ∀ (vs : List Value) (o : Nat), Below B w (w'.setCells b o vs)
  | [], o => h
  | v :: vs, o => below_setCellsT (h.setCell (p := ⟨b, o, none⟩) hb v) hb vs (o + 1)
theorem range_cellT {w : World} {b : Nat} {L : List Value} (h : w.rangeAt b 0 L) (i : Nat) (u : Value) (e : L[i]? = some u) : w.cell? ⟨b, i, none⟩ = some u := by
  have := h i u e
  simpa using this
set_option maxHeartbeats 32000000 in
theorem clstep_any {W w : World} {y : Lyr} {l : List Lyr} {R : List Pr} {k : Nat} (h : At W y l R k w) (hn : y.n + k + 3 ≤ maxLen) (x : StepV) (hm : x.m.rd w) (hf : x.fine) (hT : Pows w)
    (fr : TypeId × Nat × Nat) (hk : w.heap[0]? = some (.cells kVals fr.1 fr.2)) :
    Calls Tryz.prog 14 #[.pointer (some ⟨y.b, 0, none⟩), .agg x.cells.toArray] w fun e w' => e = .returned (.int .i64 (stepM14 R x).1) ∧ At W y l (stepM14 R x).2 (k + 3) w' ∧ Kept w w' := by
  obtain ⟨⟨UE, UR⟩, hU⟩ : ∃ p, p = stepM14 R x := ⟨_, rfl⟩
  rw [← hU]
  have HU := Lib.hid hU
  clear hU
  have hcl : x.m.cl.size ≤ 1048576 := hf.m.t _ (by simp [MsgV.texts])
  have hch : x.m.h.ch.size ≤ 1048576 := hf.m.t _ (by simp [MsgV.texts])
  have hco : x.m.o.ch.size ≤ 1048576 := hf.m.t _ (by simp [MsgV.texts])
  have hlt := hf.now
  have HUP := Lib.hid (fun (Z : World) (hz : Below w.heap.size w Z) => h.up hz)
  have HCR := Lib.hid (fun (Z : World) (hz : Below w.heap.size w Z) => clcreateU_any (h.up hz) hn (hT.kept (Kept.of_belowX hz)) (hdOf x.m.h) x.m.per x.now x.m.h.vr x.m.h.vv x.m.h.vn ((hm.keptM (Kept.of_belowX hz)).r_h.r) ((hm.keptM (Kept.of_belowX hz)).r_h.v) ((hm.keptM (Kept.of_belowX hz)).r_h.n) (by show x.m.h.ch.size ≤ _; omega) hm.r_h.ht hm.r_h.tm hm.lt_per)
  have HNW := Lib.hid (fun (Z : World) (hz : Below w.heap.size w Z) => clnews_any x.m Z (hm.keptM (Kept.of_belowX hz)))
  have HUD := Lib.hid (fun (Z : World) (hz : Below w.heap.size w Z) => clupd_any (h.up hz) hn x.m.cl (by omega) (nwOf x.m) (nwOf_rd (hm.keptM (Kept.of_belowX hz)) hf.m) x.now hlt fr ((hz.block _ (blk_lt hk)).trans hk))
  have HMI := Lib.hid (fun (Z : World) (hz : Below w.heap.size w Z) => clmis_any (h.up hz) hn x.m.cl (by omega) (nwOf x.m) (nw2Of x.m) (nwOf_rd (hm.keptM (Kept.of_belowX hz)) hf.m) (nw2Of_rd (hm.keptM (Kept.of_belowX hz)) hf.m) (by show x.m.h.ch.size ≤ _; unfold maxLen; omega) (by show x.m.o.ch.size ≤ _; unfold maxLen; omega) x.now hlt fr ((hz.block _ (blk_lt hk)).trans hk))
  unfold stepM14 at HU
  obtain ⟨B, hB⟩ : ∃ B : Addr, B = ⟨y.b, 0, none⟩ := ⟨_, rfl⟩
  rw [← hB] at HCR HUD HMI ⊢
  clear hB hcl hch hco hlt h hT hk hn hf
  obtain ⟨x_on, x_self, x_now, x_sg, ⟨m_kd, m_to, m_dn, m_am, m_cl, m_cc, m_cn, m_cd, m_ch, m_ce, m_po, m_pe, m_ve, m_od, ⟨m_h_ch, m_h_ht, m_h_tm, m_h_vr, m_h_vv, m_h_vn, m_h_rt, m_h_va, m_h_nx⟩, ⟨m_o_ch, m_o_ht, m_o_tm, m_o_vr, m_o_vv, m_o_vn, m_o_rt, m_o_va, m_o_nx⟩, m_vs1, m_s1, m_vs2, m_s2, m_vs3, m_s3, m_vt1, m_t1, m_vt2, m_t2, m_ht, m_tm, m_at_, m_per, ⟨m_pk_src, m_pk_dst, m_pk_seq, m_pk_vd, m_pk_da, m_pk_ht, m_pk_tm⟩, m_vak, m_ak, m_vpf, ⟨m_pf_n, m_pf_l⟩, m_nx, ⟨m_pay_d, m_pay_x, m_pay_y, m_pay_z⟩, m_vos, m_os⟩⟩ := x
  dsimp only at hm HU HCR HNW HUD HMI ⊢
  have qm_h_vr : Rd w w.heap.size m_h_vr m_h_rt := hm.r_h.r
  have qm_h_vv : Rd w w.heap.size m_h_vv m_h_va := hm.r_h.v
  have qm_h_vn : Rd w w.heap.size m_h_vn m_h_nx := hm.r_h.n
  have qm_o_vr : Rd w w.heap.size m_o_vr m_o_rt := hm.r_o.r
  have qm_o_vv : Rd w w.heap.size m_o_vv m_o_va := hm.r_o.v
  have qm_o_vn : Rd w w.heap.size m_o_vn m_o_nx := hm.r_o.n
  have qm_vs1 : ValsAt w w.heap.size m_vs1 m_s1 := hm.r_s1
  have qm_vs2 : ValsAt w w.heap.size m_vs2 m_s2 := hm.r_s2
  have qm_vs3 : ValsAt w w.heap.size m_vs3 m_s3 := hm.r_s3
  have qm_vt1 : StrsAt w w.heap.size m_vt1 m_t1 := hm.r_t1
  have qm_vt2 : StrsAt w w.heap.size m_vt2 m_t2 := hm.r_t2
  have qm_pk_vd : Rd w w.heap.size m_pk_vd m_pk_da := hm.r_pk.d
  have qm_vak : Rd w w.heap.size m_vak m_ak := hm.r_ak
  have qm_vpf : LeavesV w w.heap.size m_vpf m_pf_l := hm.r_pf
  have qm_vos : OrdsAt w m_vos m_os := hm.r_os
  obtain ⟨Am_h_vr, Cm_h_vr, rfl⟩ := qm_h_vr.form
  obtain ⟨Am_h_vv, Cm_h_vv, rfl⟩ := qm_h_vv.form
  obtain ⟨Am_h_vn, Cm_h_vn, rfl⟩ := qm_h_vn.form
  obtain ⟨Am_o_vr, Cm_o_vr, rfl⟩ := qm_o_vr.form
  obtain ⟨Am_o_vv, Cm_o_vv, rfl⟩ := qm_o_vv.form
  obtain ⟨Am_o_vn, Cm_o_vn, rfl⟩ := qm_o_vn.form
  obtain ⟨Am_vs1, Cm_vs1, rfl⟩ := qm_vs1.form
  obtain ⟨Am_vs2, Cm_vs2, rfl⟩ := qm_vs2.form
  obtain ⟨Am_vs3, Cm_vs3, rfl⟩ := qm_vs3.form
  obtain ⟨Am_vt1, Cm_vt1, rfl⟩ := qm_vt1.form
  obtain ⟨Am_vt2, Cm_vt2, rfl⟩ := qm_vt2.form
  obtain ⟨Am_pk_vd, Cm_pk_vd, rfl⟩ := qm_pk_vd.form
  obtain ⟨Am_vak, Cm_vak, rfl⟩ := qm_vak.form
  obtain ⟨Am_vpf, Cm_vpf, rfl⟩ := qm_vpf.form
  obtain ⟨Am_vos, Cm_vos, rfl⟩ := qm_vos.form
  clear qm_h_vr qm_h_vv qm_h_vn qm_o_vr qm_o_vv qm_o_vn qm_vs1 qm_vs2 qm_vs3 qm_vt1 qm_vt2 qm_pk_vd qm_vak qm_vpf qm_vos
  clear hm
  unfold StepV.cells
  obtain ⟨ML, hML⟩ : ∃ L : List Value, L = MsgV.cells ⟨m_kd, m_to, m_dn, m_am, m_cl, m_cc, m_cn, m_cd, m_ch, m_ce, m_po, m_pe, m_ve, m_od, ⟨m_h_ch, m_h_ht, m_h_tm, (.slice Am_h_vr m_h_rt.length Cm_h_vr), (.slice Am_h_vv m_h_va.length Cm_h_vv), (.slice Am_h_vn m_h_nx.length Cm_h_vn), m_h_rt, m_h_va, m_h_nx⟩, ⟨m_o_ch, m_o_ht, m_o_tm, (.slice Am_o_vr m_o_rt.length Cm_o_vr), (.slice Am_o_vv m_o_va.length Cm_o_vv), (.slice Am_o_vn m_o_nx.length Cm_o_vn), m_o_rt, m_o_va, m_o_nx⟩, (.slice Am_vs1 m_s1.length Cm_vs1), m_s1, (.slice Am_vs2 m_s2.length Cm_vs2), m_s2, (.slice Am_vs3 m_s3.length Cm_vs3), m_s3, (.slice Am_vt1 m_t1.length Cm_vt1), m_t1, (.slice Am_vt2 m_t2.length Cm_vt2), m_t2, m_ht, m_tm, m_at_, m_per, ⟨m_pk_src, m_pk_dst, m_pk_seq, (.slice Am_pk_vd m_pk_da.length Cm_pk_vd), m_pk_da, m_pk_ht, m_pk_tm⟩, (.slice Am_vak m_ak.length Cm_vak), m_ak, (.slice Am_vpf m_pf_l.length Cm_vpf), ⟨m_pf_n, m_pf_l⟩, m_nx, ⟨m_pay_d, m_pay_x, m_pay_y, m_pay_z⟩, (.slice Am_vos m_os.length Cm_vos), m_os⟩ := ⟨_, rfl⟩
  rw [← hML] at HNW
  have HML := Lib.hid hML
  clear hML
  unfold MsgV.cells at HML ⊢
  unfold nwOf nw2Of NwW.val at *
  unfold hdOf at *
  dsimp only at HML HU HCR HNW HUD HMI ⊢
  generalize hUV : updM R m_cl _ x_now = UV at *
  generalize hMV : misM R m_cl _ _ x_now = MV at *
  generalize hCV : createE _ m_per x_now = CV at *
  generalize hCR : createR R _ m_per = CR at *
  clear hUV hMV hCV hCR
  obtain ⟨UV1, UV2⟩ := UV
  obtain ⟨MV1, MV2⟩ := MV
  dsimp only at HUD HMI
  have m3 := heap_alloc_new w (.cells ((.int .i64 x_on :: .int .u64 (x_self : Int) :: .int .u64 (x_now : Int) :: .string x_sg :: [.int .i64 m_kd, .string m_to, .string m_dn, .int .u64 (m_am.a : Int), .int .u64 (m_am.b : Int), .int .u64 (m_am.c : Int), .int .u64 (m_am.d : Int), .string m_cl, .string m_cc, .string m_cn, .string m_cd, .string m_ch, .string m_ce, .string m_po, .string m_pe, .string m_ve, .bool m_od, .string m_h_ch, .int .u64 (m_h_ht : Int), .int .u64 (m_h_tm : Int), .slice Am_h_vr m_h_rt.length Cm_h_vr, .slice Am_h_vv m_h_va.length Cm_h_vv, .slice Am_h_vn m_h_nx.length Cm_h_vn, .string m_o_ch, .int .u64 (m_o_ht : Int), .int .u64 (m_o_tm : Int), .slice Am_o_vr m_o_rt.length Cm_o_vr, .slice Am_o_vv m_o_va.length Cm_o_vv, .slice Am_o_vn m_o_nx.length Cm_o_vn, .slice Am_vs1 m_s1.length Cm_vs1, .slice Am_vs2 m_s2.length Cm_vs2, .slice Am_vs3 m_s3.length Cm_vs3, .slice Am_vt1 m_t1.length Cm_vt1, .slice Am_vt2 m_t2.length Cm_vt2, .int .u64 (m_ht : Int), .int .u64 (m_tm : Int), .int .u64 (m_at_ : Int), .int .u64 (m_per : Int), .string m_pk_src, .string m_pk_dst, .int .u64 (m_pk_seq : Int), .slice Am_pk_vd m_pk_da.length Cm_pk_vd, .int .u64 (m_pk_ht : Int), .int .u64 (m_pk_tm : Int), .slice Am_vak m_ak.length Cm_vak, .int .i64 m_pf_n, .slice Am_vpf m_pf_l.length Cm_vpf, .int .u64 (m_nx : Int), .string m_pay_d, .int .u64 (m_pay_x.a : Int), .int .u64 (m_pay_x.b : Int), .int .u64 (m_pay_x.c : Int), .int .u64 (m_pay_x.d : Int), .int .u64 (m_pay_y.a : Int), .int .u64 (m_pay_y.b : Int), .int .u64 (m_pay_y.c : Int), .int .u64 (m_pay_y.d : Int), .int .u64 (m_pay_z.a : Int), .int .u64 (m_pay_z.b : Int), .int .u64 (m_pay_z.c : Int), .int .u64 (m_pay_z.d : Int), .slice Am_vos m_os.length Cm_vos]).toArray) 48)
  have b3 : Below w.heap.size w (w.alloc (.cells ((.int .i64 x_on :: .int .u64 (x_self : Int) :: .int .u64 (x_now : Int) :: .string x_sg :: [.int .i64 m_kd, .string m_to, .string m_dn, .int .u64 (m_am.a : Int), .int .u64 (m_am.b : Int), .int .u64 (m_am.c : Int), .int .u64 (m_am.d : Int), .string m_cl, .string m_cc, .string m_cn, .string m_cd, .string m_ch, .string m_ce, .string m_po, .string m_pe, .string m_ve, .bool m_od, .string m_h_ch, .int .u64 (m_h_ht : Int), .int .u64 (m_h_tm : Int), .slice Am_h_vr m_h_rt.length Cm_h_vr, .slice Am_h_vv m_h_va.length Cm_h_vv, .slice Am_h_vn m_h_nx.length Cm_h_vn, .string m_o_ch, .int .u64 (m_o_ht : Int), .int .u64 (m_o_tm : Int), .slice Am_o_vr m_o_rt.length Cm_o_vr, .slice Am_o_vv m_o_va.length Cm_o_vv, .slice Am_o_vn m_o_nx.length Cm_o_vn, .slice Am_vs1 m_s1.length Cm_vs1, .slice Am_vs2 m_s2.length Cm_vs2, .slice Am_vs3 m_s3.length Cm_vs3, .slice Am_vt1 m_t1.length Cm_vt1, .slice Am_vt2 m_t2.length Cm_vt2, .int .u64 (m_ht : Int), .int .u64 (m_tm : Int), .int .u64 (m_at_ : Int), .int .u64 (m_per : Int), .string m_pk_src, .string m_pk_dst, .int .u64 (m_pk_seq : Int), .slice Am_pk_vd m_pk_da.length Cm_pk_vd, .int .u64 (m_pk_ht : Int), .int .u64 (m_pk_tm : Int), .slice Am_vak m_ak.length Cm_vak, .int .i64 m_pf_n, .slice Am_vpf m_pf_l.length Cm_vpf, .int .u64 (m_nx : Int), .string m_pay_d, .int .u64 (m_pay_x.a : Int), .int .u64 (m_pay_x.b : Int), .int .u64 (m_pay_x.c : Int), .int .u64 (m_pay_x.d : Int), .int .u64 (m_pay_y.a : Int), .int .u64 (m_pay_y.b : Int), .int .u64 (m_pay_y.c : Int), .int .u64 (m_pay_y.d : Int), .int .u64 (m_pay_z.a : Int), .int .u64 (m_pay_z.b : Int), .int .u64 (m_pay_z.c : Int), .int .u64 (m_pay_z.d : Int), .slice Am_vos m_os.length Cm_vos]).toArray) 48)) := (Below.refl _ _).alloc (Nat.le_refl _) _
  have m5 := heap_alloc_new (w.alloc (.cells ((.int .i64 x_on :: .int .u64 (x_self : Int) :: .int .u64 (x_now : Int) :: .string x_sg :: [.int .i64 m_kd, .string m_to, .string m_dn, .int .u64 (m_am.a : Int), .int .u64 (m_am.b : Int), .int .u64 (m_am.c : Int), .int .u64 (m_am.d : Int), .string m_cl, .string m_cc, .string m_cn, .string m_cd, .string m_ch, .string m_ce, .string m_po, .string m_pe, .string m_ve, .bool m_od, .string m_h_ch, .int .u64 (m_h_ht : Int), .int .u64 (m_h_tm : Int), .slice Am_h_vr m_h_rt.length Cm_h_vr, .slice Am_h_vv m_h_va.length Cm_h_vv, .slice Am_h_vn m_h_nx.length Cm_h_vn, .string m_o_ch, .int .u64 (m_o_ht : Int), .int .u64 (m_o_tm : Int), .slice Am_o_vr m_o_rt.length Cm_o_vr, .slice Am_o_vv m_o_va.length Cm_o_vv, .slice Am_o_vn m_o_nx.length Cm_o_vn, .slice Am_vs1 m_s1.length Cm_vs1, .slice Am_vs2 m_s2.length Cm_vs2, .slice Am_vs3 m_s3.length Cm_vs3, .slice Am_vt1 m_t1.length Cm_vt1, .slice Am_vt2 m_t2.length Cm_vt2, .int .u64 (m_ht : Int), .int .u64 (m_tm : Int), .int .u64 (m_at_ : Int), .int .u64 (m_per : Int), .string m_pk_src, .string m_pk_dst, .int .u64 (m_pk_seq : Int), .slice Am_pk_vd m_pk_da.length Cm_pk_vd, .int .u64 (m_pk_ht : Int), .int .u64 (m_pk_tm : Int), .slice Am_vak m_ak.length Cm_vak, .int .i64 m_pf_n, .slice Am_vpf m_pf_l.length Cm_vpf, .int .u64 (m_nx : Int), .string m_pay_d, .int .u64 (m_pay_x.a : Int), .int .u64 (m_pay_x.b : Int), .int .u64 (m_pay_x.c : Int), .int .u64 (m_pay_x.d : Int), .int .u64 (m_pay_y.a : Int), .int .u64 (m_pay_y.b : Int), .int .u64 (m_pay_y.c : Int), .int .u64 (m_pay_y.d : Int), .int .u64 (m_pay_z.a : Int), .int .u64 (m_pay_z.b : Int), .int .u64 (m_pay_z.c : Int), .int .u64 (m_pay_z.d : Int), .slice Am_vos m_os.length Cm_vos]).toArray) 48)) (.cells #[.int .i64 0, .string ⟨#[]⟩, .string ⟨#[]⟩, .int .u64 0, .int .u64 0, .int .u64 0, .int .u64 0, .string ⟨#[]⟩, .string ⟨#[]⟩, .string ⟨#[]⟩, .string ⟨#[]⟩, .string ⟨#[]⟩, .string ⟨#[]⟩, .string ⟨#[]⟩, .string ⟨#[]⟩, .string ⟨#[]⟩, .bool false, .string ⟨#[]⟩, .int .u64 0, .int .u64 0, .slice none 0 0, .slice none 0 0, .slice none 0 0, .string ⟨#[]⟩, .int .u64 0, .int .u64 0, .slice none 0 0, .slice none 0 0, .slice none 0 0, .slice none 0 0, .slice none 0 0, .slice none 0 0, .slice none 0 0, .slice none 0 0, .int .u64 0, .int .u64 0, .int .u64 0, .int .u64 0, .string ⟨#[]⟩, .string ⟨#[]⟩, .int .u64 0, .slice none 0 0, .int .u64 0, .int .u64 0, .slice none 0 0, .int .i64 0, .slice none 0 0, .int .u64 0, .string ⟨#[]⟩, .int .u64 0, .int .u64 0, .int .u64 0, .int .u64 0, .int .u64 0, .int .u64 0, .int .u64 0, .int .u64 0, .int .u64 0, .int .u64 0, .int .u64 0, .int .u64 0, .slice none 0 0] 46)
  have b5 := b3.alloc b3.size (.cells #[.int .i64 0, .string ⟨#[]⟩, .string ⟨#[]⟩, .int .u64 0, .int .u64 0, .int .u64 0, .int .u64 0, .string ⟨#[]⟩, .string ⟨#[]⟩, .string ⟨#[]⟩, .string ⟨#[]⟩, .string ⟨#[]⟩, .string ⟨#[]⟩, .string ⟨#[]⟩, .string ⟨#[]⟩, .string ⟨#[]⟩, .bool false, .string ⟨#[]⟩, .int .u64 0, .int .u64 0, .slice none 0 0, .slice none 0 0, .slice none 0 0, .string ⟨#[]⟩, .int .u64 0, .int .u64 0, .slice none 0 0, .slice none 0 0, .slice none 0 0, .slice none 0 0, .slice none 0 0, .slice none 0 0, .slice none 0 0, .slice none 0 0, .int .u64 0, .int .u64 0, .int .u64 0, .int .u64 0, .string ⟨#[]⟩, .string ⟨#[]⟩, .int .u64 0, .slice none 0 0, .int .u64 0, .int .u64 0, .slice none 0 0, .int .i64 0, .slice none 0 0, .int .u64 0, .string ⟨#[]⟩, .int .u64 0, .int .u64 0, .int .u64 0, .int .u64 0, .int .u64 0, .int .u64 0, .int .u64 0, .int .u64 0, .int .u64 0, .int .u64 0, .int .u64 0, .int .u64 0, .slice none 0 0] 46)
  have hrg3 : (w.alloc (.cells ((.int .i64 x_on :: .int .u64 (x_self : Int) :: .int .u64 (x_now : Int) :: .string x_sg :: [.int .i64 m_kd, .string m_to, .string m_dn, .int .u64 (m_am.a : Int), .int .u64 (m_am.b : Int), .int .u64 (m_am.c : Int), .int .u64 (m_am.d : Int), .string m_cl, .string m_cc, .string m_cn, .string m_cd, .string m_ch, .string m_ce, .string m_po, .string m_pe, .string m_ve, .bool m_od, .string m_h_ch, .int .u64 (m_h_ht : Int), .int .u64 (m_h_tm : Int), .slice Am_h_vr m_h_rt.length Cm_h_vr, .slice Am_h_vv m_h_va.length Cm_h_vv, .slice Am_h_vn m_h_nx.length Cm_h_vn, .string m_o_ch, .int .u64 (m_o_ht : Int), .int .u64 (m_o_tm : Int), .slice Am_o_vr m_o_rt.length Cm_o_vr, .slice Am_o_vv m_o_va.length Cm_o_vv, .slice Am_o_vn m_o_nx.length Cm_o_vn, .slice Am_vs1 m_s1.length Cm_vs1, .slice Am_vs2 m_s2.length Cm_vs2, .slice Am_vs3 m_s3.length Cm_vs3, .slice Am_vt1 m_t1.length Cm_vt1, .slice Am_vt2 m_t2.length Cm_vt2, .int .u64 (m_ht : Int), .int .u64 (m_tm : Int), .int .u64 (m_at_ : Int), .int .u64 (m_per : Int), .string m_pk_src, .string m_pk_dst, .int .u64 (m_pk_seq : Int), .slice Am_pk_vd m_pk_da.length Cm_pk_vd, .int .u64 (m_pk_ht : Int), .int .u64 (m_pk_tm : Int), .slice Am_vak m_ak.length Cm_vak, .int .i64 m_pf_n, .slice Am_vpf m_pf_l.length Cm_vpf, .int .u64 (m_nx : Int), .string m_pay_d, .int .u64 (m_pay_x.a : Int), .int .u64 (m_pay_x.b : Int), .int .u64 (m_pay_x.c : Int), .int .u64 (m_pay_x.d : Int), .int .u64 (m_pay_y.a : Int), .int .u64 (m_pay_y.b : Int), .int .u64 (m_pay_y.c : Int), .int .u64 (m_pay_y.d : Int), .int .u64 (m_pay_z.a : Int), .int .u64 (m_pay_z.b : Int), .int .u64 (m_pay_z.c : Int), .int .u64 (m_pay_z.d : Int), .slice Am_vos m_os.length Cm_vos]).toArray) 48)).rangeAt w.heap.size 4 ML := fun j v hv => by
    rw [blk_cell m3, List.getElem?_toArray, Nat.add_comm]
    rw [HML.out] at hv
    exact hv
  replace m3 := (Below.heap_alloc (w.alloc (.cells ((.int .i64 x_on :: .int .u64 (x_self : Int) :: .int .u64 (x_now : Int) :: .string x_sg :: [.int .i64 m_kd, .string m_to, .string m_dn, .int .u64 (m_am.a : Int), .int .u64 (m_am.b : Int), .int .u64 (m_am.c : Int), .int .u64 (m_am.d : Int), .string m_cl, .string m_cc, .string m_cn, .string m_cd, .string m_ch, .string m_ce, .string m_po, .string m_pe, .string m_ve, .bool m_od, .string m_h_ch, .int .u64 (m_h_ht : Int), .int .u64 (m_h_tm : Int), .slice Am_h_vr m_h_rt.length Cm_h_vr, .slice Am_h_vv m_h_va.length Cm_h_vv, .slice Am_h_vn m_h_nx.length Cm_h_vn, .string m_o_ch, .int .u64 (m_o_ht : Int), .int .u64 (m_o_tm : Int), .slice Am_o_vr m_o_rt.length Cm_o_vr, .slice Am_o_vv m_o_va.length Cm_o_vv, .slice Am_o_vn m_o_nx.length Cm_o_vn, .slice Am_vs1 m_s1.length Cm_vs1, .slice Am_vs2 m_s2.length Cm_vs2, .slice Am_vs3 m_s3.length Cm_vs3, .slice Am_vt1 m_t1.length Cm_vt1, .slice Am_vt2 m_t2.length Cm_vt2, .int .u64 (m_ht : Int), .int .u64 (m_tm : Int), .int .u64 (m_at_ : Int), .int .u64 (m_per : Int), .string m_pk_src, .string m_pk_dst, .int .u64 (m_pk_seq : Int), .slice Am_pk_vd m_pk_da.length Cm_pk_vd, .int .u64 (m_pk_ht : Int), .int .u64 (m_pk_tm : Int), .slice Am_vak m_ak.length Cm_vak, .int .i64 m_pf_n, .slice Am_vpf m_pf_l.length Cm_vpf, .int .u64 (m_nx : Int), .string m_pay_d, .int .u64 (m_pay_x.a : Int), .int .u64 (m_pay_x.b : Int), .int .u64 (m_pay_x.c : Int), .int .u64 (m_pay_x.d : Int), .int .u64 (m_pay_y.a : Int), .int .u64 (m_pay_y.b : Int), .int .u64 (m_pay_y.c : Int), .int .u64 (m_pay_y.d : Int), .int .u64 (m_pay_z.a : Int), .int .u64 (m_pay_z.b : Int), .int .u64 (m_pay_z.c : Int), .int .u64 (m_pay_z.d : Int), .slice Am_vos m_os.length Cm_vos]).toArray) 48)) (.cells #[.int .i64 0, .string ⟨#[]⟩, .string ⟨#[]⟩, .int .u64 0, .int .u64 0, .int .u64 0, .int .u64 0, .string ⟨#[]⟩, .string ⟨#[]⟩, .string ⟨#[]⟩, .string ⟨#[]⟩, .string ⟨#[]⟩, .string ⟨#[]⟩, .string ⟨#[]⟩, .string ⟨#[]⟩, .string ⟨#[]⟩, .bool false, .string ⟨#[]⟩, .int .u64 0, .int .u64 0, .slice none 0 0, .slice none 0 0, .slice none 0 0, .string ⟨#[]⟩, .int .u64 0, .int .u64 0, .slice none 0 0, .slice none 0 0, .slice none 0 0, .slice none 0 0, .slice none 0 0, .slice none 0 0, .slice none 0 0, .slice none 0 0, .int .u64 0, .int .u64 0, .int .u64 0, .int .u64 0, .string ⟨#[]⟩, .string ⟨#[]⟩, .int .u64 0, .slice none 0 0, .int .u64 0, .int .u64 0, .slice none 0 0, .int .i64 0, .slice none 0 0, .int .u64 0, .string ⟨#[]⟩, .int .u64 0, .int .u64 0, .int .u64 0, .int .u64 0, .int .u64 0, .int .u64 0, .int .u64 0, .int .u64 0, .int .u64 0, .int .u64 0, .int .u64 0, .int .u64 0, .slice none 0 0] 46) _ (blk_lt m3)).trans m3
  rw [show (w.alloc (.cells ((.int .i64 x_on :: .int .u64 (x_self : Int) :: .int .u64 (x_now : Int) :: .string x_sg :: [.int .i64 m_kd, .string m_to, .string m_dn, .int .u64 (m_am.a : Int), .int .u64 (m_am.b : Int), .int .u64 (m_am.c : Int), .int .u64 (m_am.d : Int), .string m_cl, .string m_cc, .string m_cn, .string m_cd, .string m_ch, .string m_ce, .string m_po, .string m_pe, .string m_ve, .bool m_od, .string m_h_ch, .int .u64 (m_h_ht : Int), .int .u64 (m_h_tm : Int), .slice Am_h_vr m_h_rt.length Cm_h_vr, .slice Am_h_vv m_h_va.length Cm_h_vv, .slice Am_h_vn m_h_nx.length Cm_h_vn, .string m_o_ch, .int .u64 (m_o_ht : Int), .int .u64 (m_o_tm : Int), .slice Am_o_vr m_o_rt.length Cm_o_vr, .slice Am_o_vv m_o_va.length Cm_o_vv, .slice Am_o_vn m_o_nx.length Cm_o_vn, .slice Am_vs1 m_s1.length Cm_vs1, .slice Am_vs2 m_s2.length Cm_vs2, .slice Am_vs3 m_s3.length Cm_vs3, .slice Am_vt1 m_t1.length Cm_vt1, .slice Am_vt2 m_t2.length Cm_vt2, .int .u64 (m_ht : Int), .int .u64 (m_tm : Int), .int .u64 (m_at_ : Int), .int .u64 (m_per : Int), .string m_pk_src, .string m_pk_dst, .int .u64 (m_pk_seq : Int), .slice Am_pk_vd m_pk_da.length Cm_pk_vd, .int .u64 (m_pk_ht : Int), .int .u64 (m_pk_tm : Int), .slice Am_vak m_ak.length Cm_vak, .int .i64 m_pf_n, .slice Am_vpf m_pf_l.length Cm_vpf, .int .u64 (m_nx : Int), .string m_pay_d, .int .u64 (m_pay_x.a : Int), .int .u64 (m_pay_x.b : Int), .int .u64 (m_pay_x.c : Int), .int .u64 (m_pay_x.d : Int), .int .u64 (m_pay_y.a : Int), .int .u64 (m_pay_y.b : Int), .int .u64 (m_pay_y.c : Int), .int .u64 (m_pay_y.d : Int), .int .u64 (m_pay_z.a : Int), .int .u64 (m_pay_z.b : Int), .int .u64 (m_pay_z.c : Int), .int .u64 (m_pay_z.d : Int), .slice Am_vos m_os.length Cm_vos]).toArray) 48)).heap.size = w.heap.size + 1 by simp] at m5
  have hl62 : ML.length = 62 := by rw [HML.out]; rfl
  have hth : ((w.alloc (.cells ((.int .i64 x_on :: .int .u64 (x_self : Int) :: .int .u64 (x_now : Int) :: .string x_sg :: [.int .i64 m_kd, .string m_to, .string m_dn, .int .u64 (m_am.a : Int), .int .u64 (m_am.b : Int), .int .u64 (m_am.c : Int), .int .u64 (m_am.d : Int), .string m_cl, .string m_cc, .string m_cn, .string m_cd, .string m_ch, .string m_ce, .string m_po, .string m_pe, .string m_ve, .bool m_od, .string m_h_ch, .int .u64 (m_h_ht : Int), .int .u64 (m_h_tm : Int), .slice Am_h_vr m_h_rt.length Cm_h_vr, .slice Am_h_vv m_h_va.length Cm_h_vv, .slice Am_h_vn m_h_nx.length Cm_h_vn, .string m_o_ch, .int .u64 (m_o_ht : Int), .int .u64 (m_o_tm : Int), .slice Am_o_vr m_o_rt.length Cm_o_vr, .slice Am_o_vv m_o_va.length Cm_o_vv, .slice Am_o_vn m_o_nx.length Cm_o_vn, .slice Am_vs1 m_s1.length Cm_vs1, .slice Am_vs2 m_s2.length Cm_vs2, .slice Am_vs3 m_s3.length Cm_vs3, .slice Am_vt1 m_t1.length Cm_vt1, .slice Am_vt2 m_t2.length Cm_vt2, .int .u64 (m_ht : Int), .int .u64 (m_tm : Int), .int .u64 (m_at_ : Int), .int .u64 (m_per : Int), .string m_pk_src, .string m_pk_dst, .int .u64 (m_pk_seq : Int), .slice Am_pk_vd m_pk_da.length Cm_pk_vd, .int .u64 (m_pk_ht : Int), .int .u64 (m_pk_tm : Int), .slice Am_vak m_ak.length Cm_vak, .int .i64 m_pf_n, .slice Am_vpf m_pf_l.length Cm_vpf, .int .u64 (m_nx : Int), .string m_pay_d, .int .u64 (m_pay_x.a : Int), .int .u64 (m_pay_x.b : Int), .int .u64 (m_pay_x.c : Int), .int .u64 (m_pay_x.d : Int), .int .u64 (m_pay_y.a : Int), .int .u64 (m_pay_y.b : Int), .int .u64 (m_pay_y.c : Int), .int .u64 (m_pay_y.d : Int), .int .u64 (m_pay_z.a : Int), .int .u64 (m_pay_z.b : Int), .int .u64 (m_pay_z.c : Int), .int .u64 (m_pay_z.d : Int), .slice Am_vos m_os.length Cm_vos]).toArray) 48)).alloc (.cells #[.int .i64 0, .string ⟨#[]⟩, .string ⟨#[]⟩, .int .u64 0, .int .u64 0, .int .u64 0, .int .u64 0, .string ⟨#[]⟩, .string ⟨#[]⟩, .string ⟨#[]⟩, .string ⟨#[]⟩, .string ⟨#[]⟩, .string ⟨#[]⟩, .string ⟨#[]⟩, .string ⟨#[]⟩, .string ⟨#[]⟩, .bool false, .string ⟨#[]⟩, .int .u64 0, .int .u64 0, .slice none 0 0, .slice none 0 0, .slice none 0 0, .string ⟨#[]⟩, .int .u64 0, .int .u64 0, .slice none 0 0, .slice none 0 0, .slice none 0 0, .slice none 0 0, .slice none 0 0, .slice none 0 0, .slice none 0 0, .slice none 0 0, .int .u64 0, .int .u64 0, .int .u64 0, .int .u64 0, .string ⟨#[]⟩, .string ⟨#[]⟩, .int .u64 0, .slice none 0 0, .int .u64 0, .int .u64 0, .slice none 0 0, .int .i64 0, .slice none 0 0, .int .u64 0, .string ⟨#[]⟩, .int .u64 0, .int .u64 0, .int .u64 0, .int .u64 0, .int .u64 0, .int .u64 0, .int .u64 0, .int .u64 0, .int .u64 0, .int .u64 0, .int .u64 0, .int .u64 0, .slice none 0 0] 46)).there (w.heap.size + 1) 0 ML.toArray.size := fun q hq => by
    have h62 : q < 62 := by simpa [hl62] using hq
    rw [Nat.zero_add]
    refine ⟨?_, blk_free m5 q⟩
    rw [blk_cell m5 q]
    simpa using h62
  have hone : ML.toArray.all (·.oneCell') = true := by rw [HML.out]; simp [Value.oneCell']
  have hrg5 := World.rangeAt_setCells_same ((w.alloc (.cells ((.int .i64 x_on :: .int .u64 (x_self : Int) :: .int .u64 (x_now : Int) :: .string x_sg :: [.int .i64 m_kd, .string m_to, .string m_dn, .int .u64 (m_am.a : Int), .int .u64 (m_am.b : Int), .int .u64 (m_am.c : Int), .int .u64 (m_am.d : Int), .string m_cl, .string m_cc, .string m_cn, .string m_cd, .string m_ch, .string m_ce, .string m_po, .string m_pe, .string m_ve, .bool m_od, .string m_h_ch, .int .u64 (m_h_ht : Int), .int .u64 (m_h_tm : Int), .slice Am_h_vr m_h_rt.length Cm_h_vr, .slice Am_h_vv m_h_va.length Cm_h_vv, .slice Am_h_vn m_h_nx.length Cm_h_vn, .string m_o_ch, .int .u64 (m_o_ht : Int), .int .u64 (m_o_tm : Int), .slice Am_o_vr m_o_rt.length Cm_o_vr, .slice Am_o_vv m_o_va.length Cm_o_vv, .slice Am_o_vn m_o_nx.length Cm_o_vn, .slice Am_vs1 m_s1.length Cm_vs1, .slice Am_vs2 m_s2.length Cm_vs2, .slice Am_vs3 m_s3.length Cm_vs3, .slice Am_vt1 m_t1.length Cm_vt1, .slice Am_vt2 m_t2.length Cm_vt2, .int .u64 (m_ht : Int), .int .u64 (m_tm : Int), .int .u64 (m_at_ : Int), .int .u64 (m_per : Int), .string m_pk_src, .string m_pk_dst, .int .u64 (m_pk_seq : Int), .slice Am_pk_vd m_pk_da.length Cm_pk_vd, .int .u64 (m_pk_ht : Int), .int .u64 (m_pk_tm : Int), .slice Am_vak m_ak.length Cm_vak, .int .i64 m_pf_n, .slice Am_vpf m_pf_l.length Cm_vpf, .int .u64 (m_nx : Int), .string m_pay_d, .int .u64 (m_pay_x.a : Int), .int .u64 (m_pay_x.b : Int), .int .u64 (m_pay_x.c : Int), .int .u64 (m_pay_x.d : Int), .int .u64 (m_pay_y.a : Int), .int .u64 (m_pay_y.b : Int), .int .u64 (m_pay_y.c : Int), .int .u64 (m_pay_y.d : Int), .int .u64 (m_pay_z.a : Int), .int .u64 (m_pay_z.b : Int), .int .u64 (m_pay_z.c : Int), .int .u64 (m_pay_z.d : Int), .slice Am_vos m_os.length Cm_vos]).toArray) 48)).alloc (.cells #[.int .i64 0, .string ⟨#[]⟩, .string ⟨#[]⟩, .int .u64 0, .int .u64 0, .int .u64 0, .int .u64 0, .string ⟨#[]⟩, .string ⟨#[]⟩, .string ⟨#[]⟩, .string ⟨#[]⟩, .string ⟨#[]⟩, .string ⟨#[]⟩, .string ⟨#[]⟩, .string ⟨#[]⟩, .string ⟨#[]⟩, .bool false, .string ⟨#[]⟩, .int .u64 0, .int .u64 0, .slice none 0 0, .slice none 0 0, .slice none 0 0, .string ⟨#[]⟩, .int .u64 0, .int .u64 0, .slice none 0 0, .slice none 0 0, .slice none 0 0, .slice none 0 0, .slice none 0 0, .slice none 0 0, .slice none 0 0, .slice none 0 0, .int .u64 0, .int .u64 0, .int .u64 0, .int .u64 0, .string ⟨#[]⟩, .string ⟨#[]⟩, .int .u64 0, .slice none 0 0, .int .u64 0, .int .u64 0, .slice none 0 0, .int .i64 0, .slice none 0 0, .int .u64 0, .string ⟨#[]⟩, .int .u64 0, .int .u64 0, .int .u64 0, .int .u64 0, .int .u64 0, .int .u64 0, .int .u64 0, .int .u64 0, .int .u64 0, .int .u64 0, .int .u64 0, .int .u64 0, .slice none 0 0] 46)) (w.heap.size + 1) 0 ML (by simpa using hth)
  have b6 := below_setCellsT b5 (show w.heap.size ≤ w.heap.size + 1 by omega) ML 0
  have b7 := below_setCellsT (Below.refl (w.heap.size + 1) ((w.alloc (.cells ((.int .i64 x_on :: .int .u64 (x_self : Int) :: .int .u64 (x_now : Int) :: .string x_sg :: [.int .i64 m_kd, .string m_to, .string m_dn, .int .u64 (m_am.a : Int), .int .u64 (m_am.b : Int), .int .u64 (m_am.c : Int), .int .u64 (m_am.d : Int), .string m_cl, .string m_cc, .string m_cn, .string m_cd, .string m_ch, .string m_ce, .string m_po, .string m_pe, .string m_ve, .bool m_od, .string m_h_ch, .int .u64 (m_h_ht : Int), .int .u64 (m_h_tm : Int), .slice Am_h_vr m_h_rt.length Cm_h_vr, .slice Am_h_vv m_h_va.length Cm_h_vv, .slice Am_h_vn m_h_nx.length Cm_h_vn, .string m_o_ch, .int .u64 (m_o_ht : Int), .int .u64 (m_o_tm : Int), .slice Am_o_vr m_o_rt.length Cm_o_vr, .slice Am_o_vv m_o_va.length Cm_o_vv, .slice Am_o_vn m_o_nx.length Cm_o_vn, .slice Am_vs1 m_s1.length Cm_vs1, .slice Am_vs2 m_s2.length Cm_vs2, .slice Am_vs3 m_s3.length Cm_vs3, .slice Am_vt1 m_t1.length Cm_vt1, .slice Am_vt2 m_t2.length Cm_vt2, .int .u64 (m_ht : Int), .int .u64 (m_tm : Int), .int .u64 (m_at_ : Int), .int .u64 (m_per : Int), .string m_pk_src, .string m_pk_dst, .int .u64 (m_pk_seq : Int), .slice Am_pk_vd m_pk_da.length Cm_pk_vd, .int .u64 (m_pk_ht : Int), .int .u64 (m_pk_tm : Int), .slice Am_vak m_ak.length Cm_vak, .int .i64 m_pf_n, .slice Am_vpf m_pf_l.length Cm_vpf, .int .u64 (m_nx : Int), .string m_pay_d, .int .u64 (m_pay_x.a : Int), .int .u64 (m_pay_x.b : Int), .int .u64 (m_pay_x.c : Int), .int .u64 (m_pay_x.d : Int), .int .u64 (m_pay_y.a : Int), .int .u64 (m_pay_y.b : Int), .int .u64 (m_pay_y.c : Int), .int .u64 (m_pay_y.d : Int), .int .u64 (m_pay_z.a : Int), .int .u64 (m_pay_z.b : Int), .int .u64 (m_pay_z.c : Int), .int .u64 (m_pay_z.d : Int), .slice Am_vos m_os.length Cm_vos]).toArray) 48)).alloc (.cells #[.int .i64 0, .string ⟨#[]⟩, .string ⟨#[]⟩, .int .u64 0, .int .u64 0, .int .u64 0, .int .u64 0, .string ⟨#[]⟩, .string ⟨#[]⟩, .string ⟨#[]⟩, .string ⟨#[]⟩, .string ⟨#[]⟩, .string ⟨#[]⟩, .string ⟨#[]⟩, .string ⟨#[]⟩, .string ⟨#[]⟩, .bool false, .string ⟨#[]⟩, .int .u64 0, .int .u64 0, .slice none 0 0, .slice none 0 0, .slice none 0 0, .string ⟨#[]⟩, .int .u64 0, .int .u64 0, .slice none 0 0, .slice none 0 0, .slice none 0 0, .slice none 0 0, .slice none 0 0, .slice none 0 0, .slice none 0 0, .slice none 0 0, .int .u64 0, .int .u64 0, .int .u64 0, .int .u64 0, .string ⟨#[]⟩, .string ⟨#[]⟩, .int .u64 0, .slice none 0 0, .int .u64 0, .int .u64 0, .slice none 0 0, .int .i64 0, .slice none 0 0, .int .u64 0, .string ⟨#[]⟩, .int .u64 0, .int .u64 0, .int .u64 0, .int .u64 0, .int .u64 0, .int .u64 0, .int .u64 0, .int .u64 0, .int .u64 0, .int .u64 0, .int .u64 0, .int .u64 0, .slice none 0 0] 46))) (Nat.le_refl _) ML 0
  have m6 := (b7.block _ (Nat.lt_succ_self _)).trans m3
  have HM := Lib.hid (And.intro m6 (And.intro hrg5 b6))
  have HRG3 := Lib.hid hrg3
  have HTH := Lib.hid hth
  have HONE := Lib.hid hone
  have HINF : Hid ((Tryz.prog.info? 46).map (·.size) = some ML.length) := Lib.hid (by rw [HML.out]; kernel_rfl)
  clear m3 m5 b3 b5 hrg3 hl62 hth hone hrg5 b6 b7 m6
  by_cases k2 : m_kd = 2
  · have HU2 := Lib.hid (Prod.mk.inj (HU.out.trans (if_pos k2)))
    subst k2
    clear HU HUD HMI HNW
    obtain ⟨m3, hrg, b5⟩ := HM.out
    have ckd := range_cellT hrg 0 (.int .i64 2) (by rw [HML.out]; rfl)
    have c17 := range_cellT hrg 17 (.string m_h_ch) (by rw [HML.out]; rfl)
    have c18 := range_cellT hrg 18 (.int .u64 (m_h_ht : Int)) (by rw [HML.out]; rfl)
    have c19 := range_cellT hrg 19 (.int .u64 (m_h_tm : Int)) (by rw [HML.out]; rfl)
    have c20 := range_cellT hrg 20 (.slice Am_h_vr m_h_rt.length Cm_h_vr) (by rw [HML.out]; rfl)
    have c21 := range_cellT hrg 21 (.slice Am_h_vv m_h_va.length Cm_h_vv) (by rw [HML.out]; rfl)
    have c22 := range_cellT hrg 22 (.slice Am_h_vn m_h_nx.length Cm_h_vn) (by rw [HML.out]; rfl)
    have c37 := range_cellT hrg 37 (.int .u64 (m_per : Int)) (by rw [HML.out]; rfl)
    have cnw := blk_cell m3 2
    clear m3 hrg b5
    go_enter Tryz.func14, Tryz.ntmps14
    go_wp2_with (first
      | (with_reducible refine at_load 46 ?_; refine wpList_load_mid rfl 46 (.tmp 8) rfl w.heap.size 4 rfl ML _ HRG3.out Tryz.underlying46 rfl HINF.out ?_)
      | (with_reducible refine at_store 46 ?_; refine wpList_store_mid rfl 46 (.tmp 5) (.tmp 9) rfl (w.heap.size + 1) 0 ML.toArray rfl rfl HTH.out (by have := HINF.out; simpa using this) HONE.out ?_))
    try simp only [List.toList_toArray]
    have b5 := HM.out.2.2
    clear ckd cnw c17 c18 c19 c20 c21 c22 c37
    generalize (((w.alloc (.cells ((.int .i64 x_on :: .int .u64 (x_self : Int) :: .int .u64 (x_now : Int) :: .string x_sg :: [.int .i64 2, .string m_to, .string m_dn, .int .u64 (m_am.a : Int), .int .u64 (m_am.b : Int), .int .u64 (m_am.c : Int), .int .u64 (m_am.d : Int), .string m_cl, .string m_cc, .string m_cn, .string m_cd, .string m_ch, .string m_ce, .string m_po, .string m_pe, .string m_ve, .bool m_od, .string m_h_ch, .int .u64 (m_h_ht : Int), .int .u64 (m_h_tm : Int), .slice Am_h_vr m_h_rt.length Cm_h_vr, .slice Am_h_vv m_h_va.length Cm_h_vv, .slice Am_h_vn m_h_nx.length Cm_h_vn, .string m_o_ch, .int .u64 (m_o_ht : Int), .int .u64 (m_o_tm : Int), .slice Am_o_vr m_o_rt.length Cm_o_vr, .slice Am_o_vv m_o_va.length Cm_o_vv, .slice Am_o_vn m_o_nx.length Cm_o_vn, .slice Am_vs1 m_s1.length Cm_vs1, .slice Am_vs2 m_s2.length Cm_vs2, .slice Am_vs3 m_s3.length Cm_vs3, .slice Am_vt1 m_t1.length Cm_vt1, .slice Am_vt2 m_t2.length Cm_vt2, .int .u64 (m_ht : Int), .int .u64 (m_tm : Int), .int .u64 (m_at_ : Int), .int .u64 (m_per : Int), .string m_pk_src, .string m_pk_dst, .int .u64 (m_pk_seq : Int), .slice Am_pk_vd m_pk_da.length Cm_pk_vd, .int .u64 (m_pk_ht : Int), .int .u64 (m_pk_tm : Int), .slice Am_vak m_ak.length Cm_vak, .int .i64 m_pf_n, .slice Am_vpf m_pf_l.length Cm_vpf, .int .u64 (m_nx : Int), .string m_pay_d, .int .u64 (m_pay_x.a : Int), .int .u64 (m_pay_x.b : Int), .int .u64 (m_pay_x.c : Int), .int .u64 (m_pay_x.d : Int), .int .u64 (m_pay_y.a : Int), .int .u64 (m_pay_y.b : Int), .int .u64 (m_pay_y.c : Int), .int .u64 (m_pay_y.d : Int), .int .u64 (m_pay_z.a : Int), .int .u64 (m_pay_z.b : Int), .int .u64 (m_pay_z.c : Int), .int .u64 (m_pay_z.d : Int), .slice Am_vos m_os.length Cm_vos]).toArray) 48)).alloc (.cells #[.int .i64 0, .string ⟨#[]⟩, .string ⟨#[]⟩, .int .u64 0, .int .u64 0, .int .u64 0, .int .u64 0, .string ⟨#[]⟩, .string ⟨#[]⟩, .string ⟨#[]⟩, .string ⟨#[]⟩, .string ⟨#[]⟩, .string ⟨#[]⟩, .string ⟨#[]⟩, .string ⟨#[]⟩, .string ⟨#[]⟩, .bool false, .string ⟨#[]⟩, .int .u64 0, .int .u64 0, .slice none 0 0, .slice none 0 0, .slice none 0 0, .string ⟨#[]⟩, .int .u64 0, .int .u64 0, .slice none 0 0, .slice none 0 0, .slice none 0 0, .slice none 0 0, .slice none 0 0, .slice none 0 0, .slice none 0 0, .slice none 0 0, .int .u64 0, .int .u64 0, .int .u64 0, .int .u64 0, .string ⟨#[]⟩, .string ⟨#[]⟩, .int .u64 0, .slice none 0 0, .int .u64 0, .int .u64 0, .slice none 0 0, .int .i64 0, .slice none 0 0, .int .u64 0, .string ⟨#[]⟩, .int .u64 0, .int .u64 0, .int .u64 0, .int .u64 0, .int .u64 0, .int .u64 0, .int .u64 0, .int .u64 0, .int .u64 0, .int .u64 0, .int .u64 0, .int .u64 0, .slice none 0 0] 46)).setCells (w.heap.size + 1) 0 ML) = W2 at *
    refine (HCR.out _ b5).mono ?_
    generalize (if CV = 0 then newID R sClient else (⟨#[]⟩ : ByteArray)) = SV
    rintro e w1 ⟨rfl, A1, hk1⟩
    have hkf := (Kept.of_belowX b5).transX hk1
    clear HCR HM b5 hk1 HRG3 HTH HONE
    go_wp2_with fail
    go_ret
    exact ⟨by rw [HU2.out.1]; rfl, by rw [HU2.out.2]; exact A1, hkf⟩
  have HU3 := Lib.hid (HU.out.trans (if_neg k2))
  clear HU HCR
  by_cases k3 : m_kd = 3
  · have HU2 := Lib.hid (Prod.mk.inj (HU3.out.trans (if_pos k3)))
    subst k3
    clear HU3 HMI
    have ckd := range_cellT HM.out.2.1 0 (.int .i64 3) (by rw [HML.out]; rfl)
    go_enter Tryz.func14, Tryz.ntmps14
    go_wp2_with (first
      | (with_reducible refine at_load 46 ?_; refine wpList_load_mid rfl 46 (.tmp 8) rfl w.heap.size 4 rfl ML _ HRG3.out Tryz.underlying46 rfl HINF.out ?_)
      | (with_reducible refine at_store 46 ?_; refine wpList_store_mid rfl 46 (.tmp 5) (.tmp 9) rfl (w.heap.size + 1) 0 ML.toArray rfl rfl HTH.out (by have := HINF.out; simpa using this) HONE.out ?_))
    try simp only [List.toList_toArray]
    clear ckd HRG3 HTH HONE
    obtain ⟨m3, hrg, b5⟩ := HM.out
    generalize (((w.alloc (.cells ((.int .i64 x_on :: .int .u64 (x_self : Int) :: .int .u64 (x_now : Int) :: .string x_sg :: [.int .i64 3, .string m_to, .string m_dn, .int .u64 (m_am.a : Int), .int .u64 (m_am.b : Int), .int .u64 (m_am.c : Int), .int .u64 (m_am.d : Int), .string m_cl, .string m_cc, .string m_cn, .string m_cd, .string m_ch, .string m_ce, .string m_po, .string m_pe, .string m_ve, .bool m_od, .string m_h_ch, .int .u64 (m_h_ht : Int), .int .u64 (m_h_tm : Int), .slice Am_h_vr m_h_rt.length Cm_h_vr, .slice Am_h_vv m_h_va.length Cm_h_vv, .slice Am_h_vn m_h_nx.length Cm_h_vn, .string m_o_ch, .int .u64 (m_o_ht : Int), .int .u64 (m_o_tm : Int), .slice Am_o_vr m_o_rt.length Cm_o_vr, .slice Am_o_vv m_o_va.length Cm_o_vv, .slice Am_o_vn m_o_nx.length Cm_o_vn, .slice Am_vs1 m_s1.length Cm_vs1, .slice Am_vs2 m_s2.length Cm_vs2, .slice Am_vs3 m_s3.length Cm_vs3, .slice Am_vt1 m_t1.length Cm_vt1, .slice Am_vt2 m_t2.length Cm_vt2, .int .u64 (m_ht : Int), .int .u64 (m_tm : Int), .int .u64 (m_at_ : Int), .int .u64 (m_per : Int), .string m_pk_src, .string m_pk_dst, .int .u64 (m_pk_seq : Int), .slice Am_pk_vd m_pk_da.length Cm_pk_vd, .int .u64 (m_pk_ht : Int), .int .u64 (m_pk_tm : Int), .slice Am_vak m_ak.length Cm_vak, .int .i64 m_pf_n, .slice Am_vpf m_pf_l.length Cm_vpf, .int .u64 (m_nx : Int), .string m_pay_d, .int .u64 (m_pay_x.a : Int), .int .u64 (m_pay_x.b : Int), .int .u64 (m_pay_x.c : Int), .int .u64 (m_pay_x.d : Int), .int .u64 (m_pay_y.a : Int), .int .u64 (m_pay_y.b : Int), .int .u64 (m_pay_y.c : Int), .int .u64 (m_pay_y.d : Int), .int .u64 (m_pay_z.a : Int), .int .u64 (m_pay_z.b : Int), .int .u64 (m_pay_z.c : Int), .int .u64 (m_pay_z.d : Int), .slice Am_vos m_os.length Cm_vos]).toArray) 48)).alloc (.cells #[.int .i64 0, .string ⟨#[]⟩, .string ⟨#[]⟩, .int .u64 0, .int .u64 0, .int .u64 0, .int .u64 0, .string ⟨#[]⟩, .string ⟨#[]⟩, .string ⟨#[]⟩, .string ⟨#[]⟩, .string ⟨#[]⟩, .string ⟨#[]⟩, .string ⟨#[]⟩, .string ⟨#[]⟩, .string ⟨#[]⟩, .bool false, .string ⟨#[]⟩, .int .u64 0, .int .u64 0, .slice none 0 0, .slice none 0 0, .slice none 0 0, .string ⟨#[]⟩, .int .u64 0, .int .u64 0, .slice none 0 0, .slice none 0 0, .slice none 0 0, .slice none 0 0, .slice none 0 0, .slice none 0 0, .slice none 0 0, .slice none 0 0, .int .u64 0, .int .u64 0, .int .u64 0, .int .u64 0, .string ⟨#[]⟩, .string ⟨#[]⟩, .int .u64 0, .slice none 0 0, .int .u64 0, .int .u64 0, .slice none 0 0, .int .i64 0, .slice none 0 0, .int .u64 0, .string ⟨#[]⟩, .int .u64 0, .int .u64 0, .int .u64 0, .int .u64 0, .int .u64 0, .int .u64 0, .int .u64 0, .int .u64 0, .int .u64 0, .int .u64 0, .int .u64 0, .int .u64 0, .slice none 0 0] 46)).setCells (w.heap.size + 1) 0 ML) = W2 at *
    generalize hg3 : w.heap.size = g3 at *
    obtain ⟨g5, hg5⟩ : ∃ g, g = g3 + 1 := ⟨_, rfl⟩
    try rw [← hg5]
    rw [← hg5] at hrg
    have HC : Hid (∀ Z, Kept W2 Z → Z.cell? ⟨g5, 0, none⟩ = some (.int .i64 3) ∧ Z.cell? ⟨g5, 7, none⟩ = some (.string m_cl) ∧ Z.cell? ⟨g5, 17, none⟩ = some (.string m_h_ch) ∧ Z.cell? ⟨g5, 18, none⟩ = some (.int .u64 (m_h_ht : Int)) ∧ Z.cell? ⟨g5, 19, none⟩ = some (.int .u64 (m_h_tm : Int)) ∧ Z.cell? ⟨g5, 20, none⟩ = some (.slice Am_h_vr m_h_rt.length Cm_h_vr) ∧ Z.cell? ⟨g5, 21, none⟩ = some (.slice Am_h_vv m_h_va.length Cm_h_vv) ∧ Z.cell? ⟨g5, 22, none⟩ = some (.slice Am_h_vn m_h_nx.length Cm_h_vn) ∧ Z.cell? ⟨g5, 23, none⟩ = some (.string m_o_ch) ∧ Z.cell? ⟨g5, 24, none⟩ = some (.int .u64 (m_o_ht : Int)) ∧ Z.cell? ⟨g5, 25, none⟩ = some (.int .u64 (m_o_tm : Int)) ∧ Z.cell? ⟨g5, 26, none⟩ = some (.slice Am_o_vr m_o_rt.length Cm_o_vr) ∧ Z.cell? ⟨g5, 27, none⟩ = some (.slice Am_o_vv m_o_va.length Cm_o_vv) ∧ Z.cell? ⟨g5, 28, none⟩ = some (.slice Am_o_vn m_o_nx.length Cm_o_vn) ∧ Z.cell? ⟨g5, 30, none⟩ = some (.slice Am_vs2 m_s2.length Cm_vs2) ∧ Z.cell? ⟨g5, 31, none⟩ = some (.slice Am_vs3 m_s3.length Cm_vs3) ∧ Z.cell? ⟨g5, 33, none⟩ = some (.slice Am_vt2 m_t2.length Cm_vt2) ∧ Z.cell? ⟨g5, 36, none⟩ = some (.int .u64 (m_at_ : Int)) ∧ Z.cell? ⟨g5, 37, none⟩ = some (.int .u64 (m_per : Int)) ∧ Z.cell? ⟨g3, 2, none⟩ = some (.int .u64 (x_now : Int))) := Lib.hid fun Z hz => ⟨hz.cell (range_cellT hrg 0 (.int .i64 3) (by rw [HML.out]; rfl)), hz.cell (range_cellT hrg 7 (.string m_cl) (by rw [HML.out]; rfl)), hz.cell (range_cellT hrg 17 (.string m_h_ch) (by rw [HML.out]; rfl)), hz.cell (range_cellT hrg 18 (.int .u64 (m_h_ht : Int)) (by rw [HML.out]; rfl)), hz.cell (range_cellT hrg 19 (.int .u64 (m_h_tm : Int)) (by rw [HML.out]; rfl)), hz.cell (range_cellT hrg 20 (.slice Am_h_vr m_h_rt.length Cm_h_vr) (by rw [HML.out]; rfl)), hz.cell (range_cellT hrg 21 (.slice Am_h_vv m_h_va.length Cm_h_vv) (by rw [HML.out]; rfl)), hz.cell (range_cellT hrg 22 (.slice Am_h_vn m_h_nx.length Cm_h_vn) (by rw [HML.out]; rfl)), hz.cell (range_cellT hrg 23 (.string m_o_ch) (by rw [HML.out]; rfl)), hz.cell (range_cellT hrg 24 (.int .u64 (m_o_ht : Int)) (by rw [HML.out]; rfl)), hz.cell (range_cellT hrg 25 (.int .u64 (m_o_tm : Int)) (by rw [HML.out]; rfl)), hz.cell (range_cellT hrg 26 (.slice Am_o_vr m_o_rt.length Cm_o_vr) (by rw [HML.out]; rfl)), hz.cell (range_cellT hrg 27 (.slice Am_o_vv m_o_va.length Cm_o_vv) (by rw [HML.out]; rfl)), hz.cell (range_cellT hrg 28 (.slice Am_o_vn m_o_nx.length Cm_o_vn) (by rw [HML.out]; rfl)), hz.cell (range_cellT hrg 30 (.slice Am_vs2 m_s2.length Cm_vs2) (by rw [HML.out]; rfl)), hz.cell (range_cellT hrg 31 (.slice Am_vs3 m_s3.length Cm_vs3) (by rw [HML.out]; rfl)), hz.cell (range_cellT hrg 33 (.slice Am_vt2 m_t2.length Cm_vt2) (by rw [HML.out]; rfl)), hz.cell (range_cellT hrg 36 (.int .u64 (m_at_ : Int)) (by rw [HML.out]; rfl)), hz.cell (range_cellT hrg 37 (.int .u64 (m_per : Int)) (by rw [HML.out]; rfl)), blk_cell (hz.blockP m3) 2⟩
    have HRG : Hid (∀ Z, Kept W2 Z → Z.rangeAt g5 0 ML) := Lib.hid fun Z hz j v hv => hz.cell (hrg j v hv)
    have HBW : Hid (∀ Z, Below W2.heap.size W2 Z → Below g3 w Z) := Lib.hid fun Z hz => b5.trans (hz.mono (by rw [← hg3]; exact b5.size))
    have HK2 : Hid (Kept w W2) := Lib.hid (Kept.of_belowX (by rw [hg3]; exact b5))
    have hbd : Below W2.heap.size W2 W2.drew := (Below.refl _ _).drew
    have hkd := Kept.of_belowX hbd
    clear m3 hrg b5 hg5 HM
    refine wp_region_held_drew (S := KepS W2.drew) (by kernel_rfl) (KepS.refl _) (fun hS0 => ?_)
    refine wpAnyH_take (i := 0) (oi := _) (v := ?_) rfl (by kernel_rfl) (by kernel_rfl) (by kernel_rfl) (fun _ _ _ h => h) (Or.inl ⟨by rfl, ?_⟩) hS0 ?_
    rotate_left
    · intro W hSW
      try go_simp
      all_goals with_reducible rfl
    simp only [Act.put, List.setIfInBounds_toArray, List.set_cons_zero, List.set_cons_succ, List.getElem_toArray, List.getElem_cons_zero, List.getElem_cons_succ]
    refine wpAnyH_take (i := 1) (oi := _) (v := ?_) rfl (by kernel_rfl) (by kernel_rfl) (by kernel_rfl) (fun _ _ _ h => h) (Or.inl ⟨by rfl, ?_⟩) hS0 ?_
    rotate_left
    · intro W hSW
      try go_simp
      all_goals with_reducible rfl
    simp only [Act.put, List.setIfInBounds_toArray, List.set_cons_zero, List.set_cons_succ, List.getElem_toArray, List.getElem_cons_zero, List.getElem_cons_succ]
    refine wpAnyH_take (i := 2) (oi := _) (v := ?_) rfl (by kernel_rfl) (by kernel_rfl) (by kernel_rfl) (fun _ _ _ h => h) (Or.inl ⟨by rfl, ?_⟩) hS0 ?_
    rotate_left
    · intro W hSW
      obtain ⟨c0, c7, c17, c18, c19, c20, c21, c22, c23, c24, c25, c26, c27, c28, c30, c31, c33, c36, c37, e2⟩ := HC.out W (hkd.transX hSW)
      try go_simp
      all_goals with_reducible rfl
    simp only [Act.put, List.setIfInBounds_toArray, List.set_cons_zero, List.set_cons_succ, List.getElem_toArray, List.getElem_cons_zero, List.getElem_cons_succ]
    refine wpAnyH_take (i := 3) (oi := _) (v := .agg ML.toArray) rfl (by kernel_rfl) (by kernel_rfl) (by kernel_rfl) (fun _ _ _ h => h) (yieldsIf_load_mid (by rfl) 46 (.tmp 5) rfl g5 0 rfl ML _ (fun W h => HRG.out W (hkd.transX h)) Tryz.underlying46 rfl HINF.out) hS0 ?_
    simp only [Act.put, List.setIfInBounds_toArray, List.set_cons_zero, List.set_cons_succ, List.getElem_toArray, List.getElem_cons_zero, List.getElem_cons_succ]
    refine wpAnyH_take (i := 5) (oi := _) (v := ?_) rfl (by kernel_rfl) (by kernel_rfl) (by kernel_rfl) (fun _ _ _ h => h) (Or.inl ⟨by rfl, ?_⟩) hS0 ?_
    rotate_left
    · intro W hSW
      try go_simp
      all_goals with_reducible rfl
    simp only [Act.put, List.setIfInBounds_toArray, List.set_cons_zero, List.set_cons_succ, List.getElem_toArray, List.getElem_cons_zero, List.getElem_cons_succ]
    refine wpAnyH_take (i := 6) (oi := _) (v := ?_) rfl (by kernel_rfl) (by kernel_rfl) (by kernel_rfl) (fun _ _ _ h => h) (Or.inl ⟨by rfl, ?_⟩) hS0 ?_
    rotate_left
    · intro W hSW
      obtain ⟨c0, c7, c17, c18, c19, c20, c21, c22, c23, c24, c25, c26, c27, c28, c30, c31, c33, c36, c37, e2⟩ := HC.out W (hkd.transX hSW)
      try go_simp
      all_goals with_reducible rfl
    simp only [Act.put, List.setIfInBounds_toArray, List.set_cons_zero, List.set_cons_succ, List.getElem_toArray, List.getElem_cons_zero, List.getElem_cons_succ]
    refine wpAnyH_ready (rs := [4]) (by kernel_rfl) (by simp) (AllReadyH.cons rfl (fun K hK => ?_) AllReadyH.nil)
    have DN := Lib.hid (HNW.out W2.drew (HBW.out W2.drew hbd))
    go_simp
    go_wp2_with ((go_at_call 24; (with_reducible refine DN.out.mono ?_); rintro e wN ⟨rfl, hbN⟩))
    have hqN := below_chain hbd hbd.size hbN
    have hkN := Kept.of_belowX hbN
    have hzN := hkd.transX hkN
    refine hK.out _ _ hkN (fun _ => ?_)
    clear hK K DN
    refine wpAnyH_stronger (S' := KepS wN) (fun W h => hkN.transX h) _ _ _ _ ?_
    have hSN : KepS wN wN := KepS.refl wN
    refine wpAnyH_ready (rs := [7]) (by kernel_rfl) (by simp) (AllReadyH.cons rfl (fun K hK => ?_) AllReadyH.nil)
    have DU := Lib.hid (HUD.out wN (HBW.out wN hqN))
    go_simp
    go_wp2_with ((go_at_call 25; (with_reducible refine DU.out.mono ?_); rintro e wU ⟨rfl, AU, hkU⟩))
    have hzU := hzN.transX hkU
    refine hK.out _ _ hkU (fun _ => ?_)
    clear hK K DU
    refine wpAnyH_stronger (S' := KepS wU) (fun W h => hkU.transX h) _ _ _ _ ?_
    have hSU : KepS wU wU := KepS.refl wU
    refine wpAnyH_take (i := 8) (oi := _) (v := ?_) rfl (by kernel_rfl) (by kernel_rfl) (by kernel_rfl) (fun _ _ _ h => h) (Or.inl ⟨by rfl, ?_⟩) hSU ?_
    rotate_left
    · intro W hSW
      try go_simp
      all_goals with_reducible rfl
    simp only [Act.put, List.setIfInBounds_toArray, List.set_cons_zero, List.set_cons_succ, List.getElem_toArray, List.getElem_cons_zero, List.getElem_cons_succ]
    refine wpAnyH_done (by kernel_rfl) ?_ _
    have hkf := HK2.out.transX hzU
    clear hbN hqN hSN hS0 hbd hkd hkN hzN hkU hzU hSU
    go_wp2_with fail
    go_ret
    exact ⟨by rw [HU2.out.1]; rfl, by rw [HU2.out.2]; exact AU.more (by omega), hkf⟩
  have HU4 := Lib.hid (HU3.out.trans (if_neg k3))
  clear HU3 HUD
  by_cases k4 : m_kd = 4
  · have HU2 := Lib.hid (Prod.mk.inj (HU4.out.trans (if_pos k4)))
    subst k4
    clear HU4
    have ckd := range_cellT HM.out.2.1 0 (.int .i64 4) (by rw [HML.out]; rfl)
    go_enter Tryz.func14, Tryz.ntmps14
    go_wp2_with (first
      | (with_reducible refine at_load 46 ?_; refine wpList_load_mid rfl 46 (.tmp 8) rfl w.heap.size 4 rfl ML _ HRG3.out Tryz.underlying46 rfl HINF.out ?_)
      | (with_reducible refine at_store 46 ?_; refine wpList_store_mid rfl 46 (.tmp 5) (.tmp 9) rfl (w.heap.size + 1) 0 ML.toArray rfl rfl HTH.out (by have := HINF.out; simpa using this) HONE.out ?_))
    try simp only [List.toList_toArray]
    clear ckd HRG3 HTH HONE
    obtain ⟨m3, hrg, b5⟩ := HM.out
    generalize (((w.alloc (.cells ((.int .i64 x_on :: .int .u64 (x_self : Int) :: .int .u64 (x_now : Int) :: .string x_sg :: [.int .i64 4, .string m_to, .string m_dn, .int .u64 (m_am.a : Int), .int .u64 (m_am.b : Int), .int .u64 (m_am.c : Int), .int .u64 (m_am.d : Int), .string m_cl, .string m_cc, .string m_cn, .string m_cd, .string m_ch, .string m_ce, .string m_po, .string m_pe, .string m_ve, .bool m_od, .string m_h_ch, .int .u64 (m_h_ht : Int), .int .u64 (m_h_tm : Int), .slice Am_h_vr m_h_rt.length Cm_h_vr, .slice Am_h_vv m_h_va.length Cm_h_vv, .slice Am_h_vn m_h_nx.length Cm_h_vn, .string m_o_ch, .int .u64 (m_o_ht : Int), .int .u64 (m_o_tm : Int), .slice Am_o_vr m_o_rt.length Cm_o_vr, .slice Am_o_vv m_o_va.length Cm_o_vv, .slice Am_o_vn m_o_nx.length Cm_o_vn, .slice Am_vs1 m_s1.length Cm_vs1, .slice Am_vs2 m_s2.length Cm_vs2, .slice Am_vs3 m_s3.length Cm_vs3, .slice Am_vt1 m_t1.length Cm_vt1, .slice Am_vt2 m_t2.length Cm_vt2, .int .u64 (m_ht : Int), .int .u64 (m_tm : Int), .int .u64 (m_at_ : Int), .int .u64 (m_per : Int), .string m_pk_src, .string m_pk_dst, .int .u64 (m_pk_seq : Int), .slice Am_pk_vd m_pk_da.length Cm_pk_vd, .int .u64 (m_pk_ht : Int), .int .u64 (m_pk_tm : Int), .slice Am_vak m_ak.length Cm_vak, .int .i64 m_pf_n, .slice Am_vpf m_pf_l.length Cm_vpf, .int .u64 (m_nx : Int), .string m_pay_d, .int .u64 (m_pay_x.a : Int), .int .u64 (m_pay_x.b : Int), .int .u64 (m_pay_x.c : Int), .int .u64 (m_pay_x.d : Int), .int .u64 (m_pay_y.a : Int), .int .u64 (m_pay_y.b : Int), .int .u64 (m_pay_y.c : Int), .int .u64 (m_pay_y.d : Int), .int .u64 (m_pay_z.a : Int), .int .u64 (m_pay_z.b : Int), .int .u64 (m_pay_z.c : Int), .int .u64 (m_pay_z.d : Int), .slice Am_vos m_os.length Cm_vos]).toArray) 48)).alloc (.cells #[.int .i64 0, .string ⟨#[]⟩, .string ⟨#[]⟩, .int .u64 0, .int .u64 0, .int .u64 0, .int .u64 0, .string ⟨#[]⟩, .string ⟨#[]⟩, .string ⟨#[]⟩, .string ⟨#[]⟩, .string ⟨#[]⟩, .string ⟨#[]⟩, .string ⟨#[]⟩, .string ⟨#[]⟩, .string ⟨#[]⟩, .bool false, .string ⟨#[]⟩, .int .u64 0, .int .u64 0, .slice none 0 0, .slice none 0 0, .slice none 0 0, .string ⟨#[]⟩, .int .u64 0, .int .u64 0, .slice none 0 0, .slice none 0 0, .slice none 0 0, .slice none 0 0, .slice none 0 0, .slice none 0 0, .slice none 0 0, .slice none 0 0, .int .u64 0, .int .u64 0, .int .u64 0, .int .u64 0, .string ⟨#[]⟩, .string ⟨#[]⟩, .int .u64 0, .slice none 0 0, .int .u64 0, .int .u64 0, .slice none 0 0, .int .i64 0, .slice none 0 0, .int .u64 0, .string ⟨#[]⟩, .int .u64 0, .int .u64 0, .int .u64 0, .int .u64 0, .int .u64 0, .int .u64 0, .int .u64 0, .int .u64 0, .int .u64 0, .int .u64 0, .int .u64 0, .int .u64 0, .slice none 0 0] 46)).setCells (w.heap.size + 1) 0 ML) = W2 at *
    generalize hg3 : w.heap.size = g3 at *
    obtain ⟨g5, hg5⟩ : ∃ g, g = g3 + 1 := ⟨_, rfl⟩
    try rw [← hg5]
    rw [← hg5] at hrg
    have HC : Hid (∀ Z, Kept W2 Z → Z.cell? ⟨g5, 0, none⟩ = some (.int .i64 4) ∧ Z.cell? ⟨g5, 7, none⟩ = some (.string m_cl) ∧ Z.cell? ⟨g5, 17, none⟩ = some (.string m_h_ch) ∧ Z.cell? ⟨g5, 18, none⟩ = some (.int .u64 (m_h_ht : Int)) ∧ Z.cell? ⟨g5, 19, none⟩ = some (.int .u64 (m_h_tm : Int)) ∧ Z.cell? ⟨g5, 20, none⟩ = some (.slice Am_h_vr m_h_rt.length Cm_h_vr) ∧ Z.cell? ⟨g5, 21, none⟩ = some (.slice Am_h_vv m_h_va.length Cm_h_vv) ∧ Z.cell? ⟨g5, 22, none⟩ = some (.slice Am_h_vn m_h_nx.length Cm_h_vn) ∧ Z.cell? ⟨g5, 23, none⟩ = some (.string m_o_ch) ∧ Z.cell? ⟨g5, 24, none⟩ = some (.int .u64 (m_o_ht : Int)) ∧ Z.cell? ⟨g5, 25, none⟩ = some (.int .u64 (m_o_tm : Int)) ∧ Z.cell? ⟨g5, 26, none⟩ = some (.slice Am_o_vr m_o_rt.length Cm_o_vr) ∧ Z.cell? ⟨g5, 27, none⟩ = some (.slice Am_o_vv m_o_va.length Cm_o_vv) ∧ Z.cell? ⟨g5, 28, none⟩ = some (.slice Am_o_vn m_o_nx.length Cm_o_vn) ∧ Z.cell? ⟨g5, 30, none⟩ = some (.slice Am_vs2 m_s2.length Cm_vs2) ∧ Z.cell? ⟨g5, 31, none⟩ = some (.slice Am_vs3 m_s3.length Cm_vs3) ∧ Z.cell? ⟨g5, 33, none⟩ = some (.slice Am_vt2 m_t2.length Cm_vt2) ∧ Z.cell? ⟨g5, 36, none⟩ = some (.int .u64 (m_at_ : Int)) ∧ Z.cell? ⟨g5, 37, none⟩ = some (.int .u64 (m_per : Int)) ∧ Z.cell? ⟨g3, 2, none⟩ = some (.int .u64 (x_now : Int))) := Lib.hid fun Z hz => ⟨hz.cell (range_cellT hrg 0 (.int .i64 4) (by rw [HML.out]; rfl)), hz.cell (range_cellT hrg 7 (.string m_cl) (by rw [HML.out]; rfl)), hz.cell (range_cellT hrg 17 (.string m_h_ch) (by rw [HML.out]; rfl)), hz.cell (range_cellT hrg 18 (.int .u64 (m_h_ht : Int)) (by rw [HML.out]; rfl)), hz.cell (range_cellT hrg 19 (.int .u64 (m_h_tm : Int)) (by rw [HML.out]; rfl)), hz.cell (range_cellT hrg 20 (.slice Am_h_vr m_h_rt.length Cm_h_vr) (by rw [HML.out]; rfl)), hz.cell (range_cellT hrg 21 (.slice Am_h_vv m_h_va.length Cm_h_vv) (by rw [HML.out]; rfl)), hz.cell (range_cellT hrg 22 (.slice Am_h_vn m_h_nx.length Cm_h_vn) (by rw [HML.out]; rfl)), hz.cell (range_cellT hrg 23 (.string m_o_ch) (by rw [HML.out]; rfl)), hz.cell (range_cellT hrg 24 (.int .u64 (m_o_ht : Int)) (by rw [HML.out]; rfl)), hz.cell (range_cellT hrg 25 (.int .u64 (m_o_tm : Int)) (by rw [HML.out]; rfl)), hz.cell (range_cellT hrg 26 (.slice Am_o_vr m_o_rt.length Cm_o_vr) (by rw [HML.out]; rfl)), hz.cell (range_cellT hrg 27 (.slice Am_o_vv m_o_va.length Cm_o_vv) (by rw [HML.out]; rfl)), hz.cell (range_cellT hrg 28 (.slice Am_o_vn m_o_nx.length Cm_o_vn) (by rw [HML.out]; rfl)), hz.cell (range_cellT hrg 30 (.slice Am_vs2 m_s2.length Cm_vs2) (by rw [HML.out]; rfl)), hz.cell (range_cellT hrg 31 (.slice Am_vs3 m_s3.length Cm_vs3) (by rw [HML.out]; rfl)), hz.cell (range_cellT hrg 33 (.slice Am_vt2 m_t2.length Cm_vt2) (by rw [HML.out]; rfl)), hz.cell (range_cellT hrg 36 (.int .u64 (m_at_ : Int)) (by rw [HML.out]; rfl)), hz.cell (range_cellT hrg 37 (.int .u64 (m_per : Int)) (by rw [HML.out]; rfl)), blk_cell (hz.blockP m3) 2⟩
    have HRG : Hid (∀ Z, Kept W2 Z → Z.rangeAt g5 0 ML) := Lib.hid fun Z hz j v hv => hz.cell (hrg j v hv)
    have HBW : Hid (∀ Z, Below W2.heap.size W2 Z → Below g3 w Z) := Lib.hid fun Z hz => b5.trans (hz.mono (by rw [← hg3]; exact b5.size))
    have HK2 : Hid (Kept w W2) := Lib.hid (Kept.of_belowX (by rw [hg3]; exact b5))
    have hbd : Below W2.heap.size W2 W2.drew := (Below.refl _ _).drew
    have hkd := Kept.of_belowX hbd
    clear m3 hrg b5 hg5 HM
    refine wp_region_held_drew (S := KepS W2.drew) (by kernel_rfl) (KepS.refl _) (fun hS0 => ?_)
    refine wpAnyH_take (i := 0) (oi := _) (v := ?_) rfl (by kernel_rfl) (by kernel_rfl) (by kernel_rfl) (fun _ _ _ h => h) (Or.inl ⟨by rfl, ?_⟩) hS0 ?_
    rotate_left
    · intro W hSW
      try go_simp
      all_goals with_reducible rfl
    simp only [Act.put, List.setIfInBounds_toArray, List.set_cons_zero, List.set_cons_succ, List.getElem_toArray, List.getElem_cons_zero, List.getElem_cons_succ]
    refine wpAnyH_take (i := 1) (oi := _) (v := ?_) rfl (by kernel_rfl) (by kernel_rfl) (by kernel_rfl) (fun _ _ _ h => h) (Or.inl ⟨by rfl, ?_⟩) hS0 ?_
    rotate_left
    · intro W hSW
      try go_simp
      all_goals with_reducible rfl
    simp only [Act.put, List.setIfInBounds_toArray, List.set_cons_zero, List.set_cons_succ, List.getElem_toArray, List.getElem_cons_zero, List.getElem_cons_succ]
    refine wpAnyH_take (i := 2) (oi := _) (v := ?_) rfl (by kernel_rfl) (by kernel_rfl) (by kernel_rfl) (fun _ _ _ h => h) (Or.inl ⟨by rfl, ?_⟩) hS0 ?_
    rotate_left
    · intro W hSW
      obtain ⟨c0, c7, c17, c18, c19, c20, c21, c22, c23, c24, c25, c26, c27, c28, c30, c31, c33, c36, c37, e2⟩ := HC.out W (hkd.transX hSW)
      try go_simp
      all_goals with_reducible rfl
    simp only [Act.put, List.setIfInBounds_toArray, List.set_cons_zero, List.set_cons_succ, List.getElem_toArray, List.getElem_cons_zero, List.getElem_cons_succ]
    refine wpAnyH_take (i := 3) (oi := _) (v := .agg ML.toArray) rfl (by kernel_rfl) (by kernel_rfl) (by kernel_rfl) (fun _ _ _ h => h) (yieldsIf_load_mid (by rfl) 46 (.tmp 5) rfl g5 0 rfl ML _ (fun W h => HRG.out W (hkd.transX h)) Tryz.underlying46 rfl HINF.out) hS0 ?_
    simp only [Act.put, List.setIfInBounds_toArray, List.set_cons_zero, List.set_cons_succ, List.getElem_toArray, List.getElem_cons_zero, List.getElem_cons_succ]
    refine wpAnyH_take (i := 5) (oi := _) (v := ?_) rfl (by kernel_rfl) (by kernel_rfl) (by kernel_rfl) (fun _ _ _ h => h) (Or.inl ⟨by rfl, ?_⟩) hS0 ?_
    rotate_left
    · intro W hSW
      try go_simp
      all_goals with_reducible rfl
    simp only [Act.put, List.setIfInBounds_toArray, List.set_cons_zero, List.set_cons_succ, List.getElem_toArray, List.getElem_cons_zero, List.getElem_cons_succ]
    refine wpAnyH_take (i := 6) (oi := _) (v := ?_) rfl (by kernel_rfl) (by kernel_rfl) (by kernel_rfl) (fun _ _ _ h => h) (Or.inl ⟨by rfl, ?_⟩) hS0 ?_
    rotate_left
    · intro W hSW
      obtain ⟨c0, c7, c17, c18, c19, c20, c21, c22, c23, c24, c25, c26, c27, c28, c30, c31, c33, c36, c37, e2⟩ := HC.out W (hkd.transX hSW)
      try go_simp
      all_goals with_reducible rfl
    simp only [Act.put, List.setIfInBounds_toArray, List.set_cons_zero, List.set_cons_succ, List.getElem_toArray, List.getElem_cons_zero, List.getElem_cons_succ]
    refine wpAnyH_take (i := 7) (oi := _) (v := ?_) rfl (by kernel_rfl) (by kernel_rfl) (by kernel_rfl) (fun _ _ _ h => h) (Or.inl ⟨by rfl, ?_⟩) hS0 ?_
    rotate_left
    · intro W hSW
      try go_simp
      all_goals with_reducible rfl
    simp only [Act.put, List.setIfInBounds_toArray, List.set_cons_zero, List.set_cons_succ, List.getElem_toArray, List.getElem_cons_zero, List.getElem_cons_succ]
    refine wpAnyH_take (i := 8) (oi := _) (v := ?_) rfl (by kernel_rfl) (by kernel_rfl) (by kernel_rfl) (fun _ _ _ h => h) (Or.inl ⟨by rfl, ?_⟩) hS0 ?_
    rotate_left
    · intro W hSW
      obtain ⟨c0, c7, c17, c18, c19, c20, c21, c22, c23, c24, c25, c26, c27, c28, c30, c31, c33, c36, c37, e2⟩ := HC.out W (hkd.transX hSW)
      try go_simp
      all_goals with_reducible rfl
    simp only [Act.put, List.setIfInBounds_toArray, List.set_cons_zero, List.set_cons_succ, List.getElem_toArray, List.getElem_cons_zero, List.getElem_cons_succ]
    refine wpAnyH_take (i := 9) (oi := _) (v := ?_) rfl (by kernel_rfl) (by kernel_rfl) (by kernel_rfl) (fun _ _ _ h => h) (Or.inl ⟨by rfl, ?_⟩) hS0 ?_
    rotate_left
    · intro W hSW
      try go_simp
      all_goals with_reducible rfl
    simp only [Act.put, List.setIfInBounds_toArray, List.set_cons_zero, List.set_cons_succ, List.getElem_toArray, List.getElem_cons_zero, List.getElem_cons_succ]
    refine wpAnyH_take (i := 10) (oi := _) (v := ?_) rfl (by kernel_rfl) (by kernel_rfl) (by kernel_rfl) (fun _ _ _ h => h) (Or.inl ⟨by rfl, ?_⟩) hS0 ?_
    rotate_left
    · intro W hSW
      obtain ⟨c0, c7, c17, c18, c19, c20, c21, c22, c23, c24, c25, c26, c27, c28, c30, c31, c33, c36, c37, e2⟩ := HC.out W (hkd.transX hSW)
      try go_simp
      all_goals with_reducible rfl
    simp only [Act.put, List.setIfInBounds_toArray, List.set_cons_zero, List.set_cons_succ, List.getElem_toArray, List.getElem_cons_zero, List.getElem_cons_succ]
    refine wpAnyH_take (i := 11) (oi := _) (v := ?_) rfl (by kernel_rfl) (by kernel_rfl) (by kernel_rfl) (fun _ _ _ h => h) (Or.inl ⟨by rfl, ?_⟩) hS0 ?_
    rotate_left
    · intro W hSW
      try go_simp
      all_goals with_reducible rfl
    simp only [Act.put, List.setIfInBounds_toArray, List.set_cons_zero, List.set_cons_succ, List.getElem_toArray, List.getElem_cons_zero, List.getElem_cons_succ]
    refine wpAnyH_take (i := 12) (oi := _) (v := ?_) rfl (by kernel_rfl) (by kernel_rfl) (by kernel_rfl) (fun _ _ _ h => h) (Or.inl ⟨by rfl, ?_⟩) hS0 ?_
    rotate_left
    · intro W hSW
      obtain ⟨c0, c7, c17, c18, c19, c20, c21, c22, c23, c24, c25, c26, c27, c28, c30, c31, c33, c36, c37, e2⟩ := HC.out W (hkd.transX hSW)
      try go_simp
      all_goals with_reducible rfl
    simp only [Act.put, List.setIfInBounds_toArray, List.set_cons_zero, List.set_cons_succ, List.getElem_toArray, List.getElem_cons_zero, List.getElem_cons_succ]
    refine wpAnyH_take (i := 13) (oi := _) (v := ?_) rfl (by kernel_rfl) (by kernel_rfl) (by kernel_rfl) (fun _ _ _ h => h) (Or.inl ⟨by rfl, ?_⟩) hS0 ?_
    rotate_left
    · intro W hSW
      try go_simp
      all_goals with_reducible rfl
    simp only [Act.put, List.setIfInBounds_toArray, List.set_cons_zero, List.set_cons_succ, List.getElem_toArray, List.getElem_cons_zero, List.getElem_cons_succ]
    refine wpAnyH_take (i := 14) (oi := _) (v := ?_) rfl (by kernel_rfl) (by kernel_rfl) (by kernel_rfl) (fun _ _ _ h => h) (Or.inl ⟨by rfl, ?_⟩) hS0 ?_
    rotate_left
    · intro W hSW
      obtain ⟨c0, c7, c17, c18, c19, c20, c21, c22, c23, c24, c25, c26, c27, c28, c30, c31, c33, c36, c37, e2⟩ := HC.out W (hkd.transX hSW)
      try go_simp
      all_goals with_reducible rfl
    simp only [Act.put, List.setIfInBounds_toArray, List.set_cons_zero, List.set_cons_succ, List.getElem_toArray, List.getElem_cons_zero, List.getElem_cons_succ]
    refine wpAnyH_take (i := 15) (oi := _) (v := ?_) rfl (by kernel_rfl) (by kernel_rfl) (by kernel_rfl) (fun _ _ _ h => h) (Or.inl ⟨by rfl, ?_⟩) hS0 ?_
    rotate_left
    · intro W hSW
      try go_simp
      all_goals with_reducible rfl
    simp only [Act.put, List.setIfInBounds_toArray, List.set_cons_zero, List.set_cons_succ, List.getElem_toArray, List.getElem_cons_zero, List.getElem_cons_succ]
    refine wpAnyH_take (i := 16) (oi := _) (v := ?_) rfl (by kernel_rfl) (by kernel_rfl) (by kernel_rfl) (fun _ _ _ h => h) (Or.inl ⟨by rfl, ?_⟩) hS0 ?_
    rotate_left
    · intro W hSW
      try go_simp
      all_goals with_reducible rfl
    simp only [Act.put, List.setIfInBounds_toArray, List.set_cons_zero, List.set_cons_succ, List.getElem_toArray, List.getElem_cons_zero, List.getElem_cons_succ]
    refine wpAnyH_take (i := 17) (oi := _) (v := ?_) rfl (by kernel_rfl) (by kernel_rfl) (by kernel_rfl) (fun _ _ _ h => h) (Or.inl ⟨by rfl, ?_⟩) hS0 ?_
    rotate_left
    · intro W hSW
      obtain ⟨c0, c7, c17, c18, c19, c20, c21, c22, c23, c24, c25, c26, c27, c28, c30, c31, c33, c36, c37, e2⟩ := HC.out W (hkd.transX hSW)
      try go_simp
      all_goals with_reducible rfl
    simp only [Act.put, List.setIfInBounds_toArray, List.set_cons_zero, List.set_cons_succ, List.getElem_toArray, List.getElem_cons_zero, List.getElem_cons_succ]
    refine wpAnyH_ready (rs := [4]) (by kernel_rfl) (by simp) (AllReadyH.cons rfl (fun K hK => ?_) AllReadyH.nil)
    have DN := Lib.hid (HNW.out W2.drew (HBW.out W2.drew hbd))
    go_simp
    go_wp2_with ((go_at_call 24; (with_reducible refine DN.out.mono ?_); rintro e wN ⟨rfl, hbN⟩))
    have hqN := below_chain hbd hbd.size hbN
    have hkN := Kept.of_belowX hbN
    have hzN := hkd.transX hkN
    refine hK.out _ _ hkN (fun _ => ?_)
    clear hK K DN
    refine wpAnyH_stronger (S' := KepS wN) (fun W h => hkN.transX h) _ _ _ _ ?_
    have hSN : KepS wN wN := KepS.refl wN
    refine wpAnyH_ready (rs := [18]) (by kernel_rfl) (by simp) (AllReadyH.cons rfl (fun K hK => ?_) AllReadyH.nil)
    have DU := Lib.hid (HMI.out wN (HBW.out wN hqN))
    go_simp
    go_wp2_with ((go_at_call 55; (with_reducible refine DU.out.mono ?_); rintro e wU ⟨rfl, AU, hkU⟩))
    have hzU := hzN.transX hkU
    refine hK.out _ _ hkU (fun _ => ?_)
    clear hK K DU
    refine wpAnyH_stronger (S' := KepS wU) (fun W h => hkU.transX h) _ _ _ _ ?_
    have hSU : KepS wU wU := KepS.refl wU
    refine wpAnyH_take (i := 19) (oi := _) (v := ?_) rfl (by kernel_rfl) (by kernel_rfl) (by kernel_rfl) (fun _ _ _ h => h) (Or.inl ⟨by rfl, ?_⟩) hSU ?_
    rotate_left
    · intro W hSW
      try go_simp
      all_goals with_reducible rfl
    simp only [Act.put, List.setIfInBounds_toArray, List.set_cons_zero, List.set_cons_succ, List.getElem_toArray, List.getElem_cons_zero, List.getElem_cons_succ]
    refine wpAnyH_done (by kernel_rfl) ?_ _
    have hkf := HK2.out.transX hzU
    clear hbN hqN hSN hS0 hbd hkd hkN hzN hkU hzU hSU
    go_wp2_with fail
    go_ret
    exact ⟨by rw [HU2.out.1]; rfl, by rw [HU2.out.2]; exact AU.more (by omega), hkf⟩
  have HU2 := Lib.hid (Prod.mk.inj (HU4.out.trans (if_neg k4)))
  clear HU4 HMI HNW
  have ckd := range_cellT HM.out.2.1 0 (.int .i64 m_kd) (by rw [HML.out]; rfl)
  go_enter Tryz.func14, Tryz.ntmps14
  go_wp2_with (first
    | (with_reducible refine at_load 46 ?_; refine wpList_load_mid rfl 46 (.tmp 8) rfl w.heap.size 4 rfl ML _ HRG3.out Tryz.underlying46 rfl HINF.out ?_)
    | (with_reducible refine at_store 46 ?_; refine wpList_store_mid rfl 46 (.tmp 5) (.tmp 9) rfl (w.heap.size + 1) 0 ML.toArray rfl rfl HTH.out (by have := HINF.out; simpa using this) HONE.out ?_))
  try simp only [List.toList_toArray]
  obtain ⟨m3, m5, b5⟩ := HM.out
  go_ret
  exact ⟨by rw [HU2.out.1]; rfl, by rw [HU2.out.2]; exact (HUP.out _ b5).more (by omega), Kept.of_belowX b5⟩
end Go.Proofs.YtmphegeiclgjbaaGreatDoor
namespace Go.Proofs.YtmphegeiclgjbaaGreatDoor
set_option maxRecDepth 100000
open Go Go.RowKit
set_option linter.unusedVariables false

theorem rF_ok {l : List UInt8} {f : Int} (h : (rF l f).2.2 = 0) : f = 0 ∧ l = fb (rF l f).1 :: (rF l f).2.1 := by
  unfold rF at h ⊢
  split at h
  · next h1 => exact absurd h h1
  · next h1 =>
    rw [if_neg h1]
    refine ⟨by simpa using h1, ?_⟩
    cases l with
    | nil => cases h
    | cons x r =>
      dsimp only at h ⊢
      split at h
      · cases h
      · next h2 =>
        rw [if_neg h2]
        dsimp only
        congr 1
        apply UInt8.toNat_inj.1
        have : x.toNat = 0 ∨ x.toNat = 1 := by omega
        rcases this with e | e <;> simp [e, fb]
end Go.Proofs.YtmphegeiclgjbaaGreatDoor
namespace Go.Proofs.YtmphegeiclgjbaaGreatDoor
set_option maxRecDepth 100000
open Go Go.RowKit
set_option linter.unusedVariables false

/-- every value fits -/
def FitR (R : List Pr) : Prop := ∀ key v, getL R key = some v → v.length ≤ 65535
theorem At.fitR {W W' : World} {y : Lyr} {l : List Lyr} {R : List Pr} {k : Nat} (h : At W y l R k W') : FitR R := fun key v e => (h.fits e).2
theorem encB_take (m : List UInt8) (h : m.length ≤ 65535) : encS ⟨m.toArray⟩ = encB m := by
  unfold encS strBytes
  simp
theorem readCl_ok {l : List UInt8} {c : ClV} (h : readCl l = some c) : l = clB c ∧ c.ok := by
  unfold readCl at h
  dsimp only at h
  split at h
  · next he =>
    injection h with h
    obtain ⟨e4, h4⟩ := rEnd_zero he
    obtain ⟨e3, h3⟩ := rF_ok e4
    obtain ⟨e2, h2⟩ := rN_ok e3
    obtain ⟨e1, h1⟩ := rN_ok e2
    obtain ⟨e0, h0⟩ := rB_ok e1
    have hl := rB_le l 0
    subst h
    refine ⟨?_, ?_, rN_ltP _ _, rN_ltP _ _⟩
    · unfold clB
      dsimp only
      rw [encB_take _ hl]
      rw [h4] at h3
      rw [h3] at h2
      rw [h2] at h1
      rw [h1] at h0
      refine h0.trans ?_
      simp only [List.append_assoc]
    · show (⟨(rB l 0).1.toArray⟩ : ByteArray).size ≤ 65535
      simpa [ByteArray.size] using hl
  · cases h
theorem getCl_some {R : List Pr} {id : ByteArray} {c : ClV} (h : getCl R id = some c) : identB id = true ∧ getL R (kCli id) = some (clB c) ∧ c.ok := by
  unfold getCl at h
  split at h
  · next hi =>
    cases hl : getL R (kCli id) with
    | none => rw [hl] at h; cases h
    | some l =>
      rw [hl] at h
      obtain ⟨h1, h2⟩ := readCl_ok (show readCl l = some c from h)
      exact ⟨hi, by rw [h1], h2⟩
  · cases h
theorem clB_length (c : ClV) : (clB c).length = (encS c.ch).length + 17 := by
  unfold clB
  simp [be_length]
theorem getCl_put {R : List Pr} {id : ByteArray} {c c' : ClV} (hf : FitR R) (h : getCl R id = some c) (hc : c'.ch = c.ch) (hok : c'.ok) : getCl (setL (kCli id) (clB c') R) id = some c' := by
  obtain ⟨h1, h2, h3⟩ := getCl_some h
  have hl := hf _ _ h2
  have hs := ident_size h1
  have hp : pairB (kCli id, clB c') = true := pairB_of (by rw [kCli_size]; omega) (by rw [kCli_size]; omega) (by rw [clB_length, hc, ← clB_length]; exact hl)
  unfold getCl
  rw [if_pos h1, getL_setL _ _ _ _ hp, if_pos rfl]
  exact readCl_clB hok
theorem getCl_cons {R : List Pr} {id a : ByteArray} {n : Nat} {v : List UInt8} : getCl (setL (kCons a n) v R) id = getCl R id := by
  unfold getCl
  rw [getL_setL_ne _ _ _ _ (cli_ne_cons _ _ _)]
theorem FitR.cons {R : List Pr} (h : FitR R) (a : ByteArray) (n : Nat) (v : List UInt8) : FitR (setL (kCons a n) v R) := fun key u e => by
  unfold setL at e
  split at e
  · next hp =>
    rw [getL_putL] at e
    split at e
    · injection e with e
      unfold pairB at hp
      simp only [Bool.and_eq_true, decide_eq_true_eq] at hp
      rw [← e]; exact hp.2
    · exact h _ _ e
  · exact h _ _ e
theorem alive_some {R : List Pr} {id : ByteArray} (h : aliveE R id = 0) : ∃ c, getCl R id = some c ∧ c.fr = false ∧ aliveV R id = c := by
  unfold aliveE at h
  unfold aliveV
  cases hg : getCl R id with
  | none => rw [hg] at h; cases h
  | some c =>
    rw [hg] at h
    dsimp only at h ⊢
    by_cases hf : c.fr = true
    · rw [if_pos hf] at h; cases h
    · rw [if_neg hf]
      exact ⟨c, rfl, by simpa using hf, rfl⟩
/-- a frozen client takes nothing -/
theorem frozen_stays {R : List Pr} {x : StepV} {c : ClV} (h : getCl R x.m.cl = some c) (hf : c.fr = true) (hk : x.m.kd = 3 ∨ x.m.kd = 4) : stepM14 R x = (102, R) := by
  have ha : aliveE R x.m.cl = 102 := by
    unfold aliveE
    rw [h]
    dsimp only
    rw [if_pos hf]
  unfold stepM14
  rcases hk with hk | hk
  · rw [if_neg (by omega), if_pos hk]
    unfold updM
    rw [ha, if_neg (by decide)]
  · rw [if_neg (by omega), if_neg (by omega), if_pos hk]
    unfold misM
    rw [ha, if_neg (by decide)]
/-- a client stays one -/
theorem client_stays {R : List Pr} {x : StepV} (hfit : FitR R) (hht : x.m.h.ht < 18446744073709551616) (hk : x.m.kd = 3 ∨ x.m.kd = 4) : (getCl (stepM14 R x).2 x.m.cl).isSome = (getCl R x.m.cl).isSome := by
  unfold stepM14
  rcases hk with hk | hk
  · rw [if_neg (by omega), if_pos hk]
    unfold updM
    split
    · next ha =>
      obtain ⟨c, h1, h2, h3⟩ := alive_some ha
      obtain ⟨-, -, h4⟩ := getCl_some h1
      rw [h3]
      split
      · cases hc : getCs R x.m.cl (nwOf x.m).h.ht with
        | some t =>
          dsimp only
          split
          · rw [getCl_put (c := c) (c' := ⟨c.ch, c.la, c.pe, true⟩) hfit h1 rfl ⟨h4.1, h4.2.1, h4.2.2⟩, h1]; rfl
          · rfl
        | none =>
          dsimp only
          have e : (nwOf x.m).h.ht = x.m.h.ht := rfl
          have hla := h4.2.1
          rw [getCl_put (c := c) (c' := ⟨c.ch, max c.la (nwOf x.m).h.ht, c.pe, c.fr⟩) (hfit.cons _ _ _) (by rw [getCl_cons]; exact h1) rfl ⟨h4.1, by show max c.la _ < _; omega, h4.2.2⟩, h1]; rfl
      · rfl
    · rfl
  · rw [if_neg (by omega), if_neg (by omega), if_pos hk]
    unfold misM
    split
    · next ha =>
      obtain ⟨c, h1, h2, h3⟩ := alive_some ha
      obtain ⟨-, -, h4⟩ := getCl_some h1
      rw [h3]
      split
      · split
        · rfl
        · split
          · split
            · rw [show (getCl ((0 : Int), setL (kCli x.m.cl) (clB ⟨c.ch, c.la, c.pe, true⟩) R).2 x.m.cl) = some ⟨c.ch, c.la, c.pe, true⟩ from getCl_put (c := c) hfit h1 rfl ⟨h4.1, h4.2.1, h4.2.2⟩, h1]; rfl
            · rfl
          · rfl
      · rfl
    · rfl
/-- what misbehaved is frozen -/
theorem misbehaved {R : List Pr} {x : StepV} (hfit : FitR R) (hk : x.m.kd = 4) (he : (stepM14 R x).1 = 0) : ∃ c, getCl (stepM14 R x).2 x.m.cl = some c ∧ c.fr = true := by
  unfold stepM14 at he ⊢
  rw [if_neg (by omega), if_neg (by omega), if_pos hk] at he ⊢
  unfold misM at he ⊢
  split at he
  · next ha =>
    obtain ⟨c, h1, h2, h3⟩ := alive_some ha
    obtain ⟨-, -, h4⟩ := getCl_some h1
    rw [if_pos ha]
    split at he
    · next e1 =>
      rw [if_pos e1]
      split at he
      · cases he
      · next e2 =>
        rw [if_neg e2]
        split at he
        · next e3 =>
          rw [if_pos e3]
          split at he
          · next e4 =>
            rw [if_pos e4, h3]
            exact ⟨_, getCl_put hfit h1 rfl ⟨h4.1, h4.2.1, h4.2.2⟩, rfl⟩
          · next e4 => exact absurd he e4
        · next e3 => exact absurd he e3
    · cases he
  · next ha => exact absurd he ha
theorem show_frozen {R : List Pr} {id : ByteArray} {c : ClV} (h : getCl R id = some c) (hf : c.fr = true) (ht now : Nat) : showM R id ht now = ([], 102) := by
  unfold showM
  rw [h]
  dsimp only
  rw [if_pos hf]
theorem verify_frozen {R : List Pr} {id : ByteArray} {c : ClV} (h : getCl R id = some c) (hf : c.fr = true) (ht now : Nat) (key : ByteArray) (val : List UInt8) (p : Pf) : verifyE R id ht now key val p = 102 := by
  unfold verifyE
  rw [show_frozen h hf, if_neg (by decide)]
theorem absent_frozen {R : List Pr} {id : ByteArray} {c : ClV} (h : getCl R id = some c) (hf : c.fr = true) (ht now : Nat) (key : ByteArray) (p : Pf) : absentE R id ht now key p = 102 := by
  unfold absentE
  rw [show_frozen h hf, if_neg (by decide)]
end Go.Proofs.YtmphegeiclgjbaaGreatDoor
namespace Go.Proofs.YtmphegeiclgjbaaGreatDoor
set_option maxRecDepth 100000
open Go Go.RowKit
set_option linter.unusedVariables false

theorem and1i (n : Int) : bits .and .i64 n 1 = 0 ∨ bits .and .i64 n 1 = 1 := by
  have e : bits .and .i64 n 1 = IntKind.i64.wrap ((BitVec.ofInt 64 n &&& BitVec.ofInt 64 1).toNat : Int) := rfl
  rw [e, BitVec.toNat_and, show (BitVec.ofInt 64 1).toNat = 2 ^ 1 - 1 from rfl, Nat.and_two_pow_sub_one_eq_mod]
  have h : (BitVec.ofInt 64 n).toNat % 2 ^ 1 = 0 ∨ (BitVec.ofInt 64 n).toNat % 2 ^ 1 = 1 := by omega
  rcases h with h | h <;> rw [h]
  · left; decide
  · right; decide
theorem there_new (w : World) (zs : Array Value) (t : TypeId) (n : Nat) (h : n ≤ zs.size) : (w.alloc (.cells zs t)).there w.heap.size 0 n := fun q hq => by
  have hb := heap_alloc_new w (.cells zs t)
  rw [Nat.zero_add]
  refine ⟨?_, blk_free hb q⟩
  rw [blk_cell hb q]
  have : q < zs.size := by omega
  simpa using this
theorem below_new (w : World) (zs : Array Value) (t : TypeId) (L : List Value) : Below w.heap.size w ((w.alloc (.cells zs t)).setCells w.heap.size 0 L) :=
  below_setCellsT ((Below.refl _ _).alloc (Nat.le_refl _) _) (Nat.le_refl _) L 0
theorem range_new (w : World) (zs : Array Value) (t : TypeId) (L : List Value) (h : L.length ≤ zs.size) : ((w.alloc (.cells zs t)).setCells w.heap.size 0 L).rangeAt w.heap.size 0 L :=
  World.rangeAt_setCells_same _ _ 0 L (there_new w zs t L.length h)
theorem range_kept {w Z : World} {b : Nat} {L : List Value} (h : w.rangeAt b 0 L) (hk : Kept w Z) : Z.rangeAt b 0 L := fun j v hv => hk.cell (h j v hv)
/-- two stores in an array's box -/
structure LS (w : World) (b1 m1 b2 m2 g N : Nat) (Z : World) : Prop where
  s : ∃ R1 R2, Sts w b1 m1 b2 m2 R1 R2 N Z
  x : Z.cell? ⟨g, 0, none⟩ = some (.pointer (some ⟨b1, 0, none⟩))
  y : Z.cell? ⟨g, 1, none⟩ = some (.pointer (some ⟨b2, 0, none⟩))
theorem LS.bel {w Z : World} {b1 m1 b2 m2 g N : Nat} (h : LS w b1 m1 b2 m2 g N Z) : Below w.heap.size w Z := by
  obtain ⟨R1, R2, h⟩ := h.s
  exact h.bel
/-- the store that a step names, and what comes back -/
theorem LS.pick {w Z : World} {b1 m1 b2 m2 g N : Nat} (h : LS w b1 m1 b2 m2 g N Z) (q : Int) (hq : q = 0 ∨ q = 1) :
    ∃ (i b m b' m' : Nat) (R R' : List Pr), q = (i : Int) ∧ i < 2 ∧ Sts w b m b' m' R R' N Z ∧ Z.cell? ⟨g, i, none⟩ = some (.pointer (some ⟨b, 0, none⟩)) ∧
      ∀ (R2 : List Pr) (Z' : World) (N' : Nat), Sts w b m b' m' R2 R' N' Z' → Kept Z Z' → LS w b1 m1 b2 m2 g N' Z' := by
  obtain ⟨R1, R2, hs⟩ := h.s
  rcases hq with rfl | rfl
  · exact ⟨0, b1, m1, b2, m2, R1, R2, rfl, by omega, hs, h.x, fun R3 Z' N' k hk => ⟨⟨R3, R2, k⟩, hk.cell h.x, hk.cell h.y⟩⟩
  · exact ⟨1, b2, m2, b1, m1, R2, R1, rfl, by omega, hs.swap, h.y, fun R3 Z' N' k hk => ⟨⟨R1, R3, k.swap⟩, hk.cell h.x, hk.cell h.y⟩⟩
def gotC (o : Option ClV) : ClV := o.getD ClV.none
theorem clV_got (o : Option ClV) : clV o = .tuple #[(gotC o).val, .bool o.isSome] := by cases o <;> rfl
theorem gotC_ok {R : List Pr} {id : ByteArray} : (gotC (getCl R id)).ok := by
  cases h : getCl R id with
  | none => exact ⟨by decide, by decide, by decide⟩
  | some c => exact (getCl_some h).2.2
/-- what a step of news leaves of a client, by what it was -/
theorem frozen_cases {R : List Pr} {x : StepV} (hfit : FitR R) (hht : x.m.h.ht < 18446744073709551616) (hk : x.m.kd = 3 ∨ x.m.kd = 4) :
    ((getCl R x.m.cl).isSome = false ∧ (getCl (stepM14 R x).2 x.m.cl).isSome = false ∧ (x.m.kd = 4 → (stepM14 R x).1 ≠ 0)) ∨
    ((getCl R x.m.cl).isSome = true ∧ (getCl (stepM14 R x).2 x.m.cl).isSome = true ∧ (gotC (getCl R x.m.cl)).fr = true ∧ gotC (getCl (stepM14 R x).2 x.m.cl) = gotC (getCl R x.m.cl) ∧ (stepM14 R x).1 = 102) ∨
    ((getCl R x.m.cl).isSome = true ∧ (getCl (stepM14 R x).2 x.m.cl).isSome = true ∧ (gotC (getCl R x.m.cl)).fr = false ∧ (x.m.kd = 4 → (stepM14 R x).1 = 0 → (gotC (getCl (stepM14 R x).2 x.m.cl)).fr = true)) := by
  have hs := client_stays (R := R) (x := x) hfit hht hk
  cases h : getCl R x.m.cl with
  | none =>
    left
    rw [h] at hs
    refine ⟨rfl, hs, fun h4 e => ?_⟩
    obtain ⟨c, hc, -⟩ := misbehaved hfit h4 e
    rw [hc] at hs
    cases hs
  | some c =>
    rw [h] at hs
    right
    cases hf : c.fr with
    | true =>
      left
      have e := frozen_stays h hf hk
      rw [e]
      exact ⟨rfl, by rw [h]; rfl, hf, by rw [h], rfl⟩
    | false =>
      right
      refine ⟨rfl, hs, hf, fun h4 e => ?_⟩
      obtain ⟨c', hc, hf'⟩ := misbehaved hfit h4 e
      rw [hc]
      exact hf'
theorem got_some {R : List Pr} {id : ByteArray} (h : (getCl R id).isSome = true) : getCl R id = some (gotC (getCl R id)) := by
  cases e : getCl R id with
  | none => rw [e] at h; cases h
  | some c => rfl
theorem StepV.one {w : World} (x : StepV) (hm : x.m.rd w) : x.cells.toArray.all (·.oneCell') = true := by
  obtain ⟨x_on, x_self, x_now, x_sg, ⟨m_kd, m_to, m_dn, m_am, m_cl, m_cc, m_cn, m_cd, m_ch, m_ce, m_po, m_pe, m_ve, m_od, ⟨m_h_ch, m_h_ht, m_h_tm, m_h_vr, m_h_vv, m_h_vn, m_h_rt, m_h_va, m_h_nx⟩, ⟨m_o_ch, m_o_ht, m_o_tm, m_o_vr, m_o_vv, m_o_vn, m_o_rt, m_o_va, m_o_nx⟩, m_vs1, m_s1, m_vs2, m_s2, m_vs3, m_s3, m_vt1, m_t1, m_vt2, m_t2, m_ht, m_tm, m_at_, m_per, ⟨m_pk_src, m_pk_dst, m_pk_seq, m_pk_vd, m_pk_da, m_pk_ht, m_pk_tm⟩, m_vak, m_ak, m_vpf, ⟨m_pf_n, m_pf_l⟩, m_nx, ⟨m_pay_d, m_pay_x, m_pay_y, m_pay_z⟩, m_vos, m_os⟩⟩ := x
  dsimp only at hm
  have qm_h_vr : Rd w w.heap.size m_h_vr m_h_rt := hm.r_h.r
  have qm_h_vv : Rd w w.heap.size m_h_vv m_h_va := hm.r_h.v
  have qm_h_vn : Rd w w.heap.size m_h_vn m_h_nx := hm.r_h.n
  have qm_o_vr : Rd w w.heap.size m_o_vr m_o_rt := hm.r_o.r
  have qm_o_vv : Rd w w.heap.size m_o_vv m_o_va := hm.r_o.v
  have qm_o_vn : Rd w w.heap.size m_o_vn m_o_nx := hm.r_o.n
  have qm_vs1 : ValsAt w w.heap.size m_vs1 m_s1 := hm.r_s1
  have qm_vs2 : ValsAt w w.heap.size m_vs2 m_s2 := hm.r_s2
  have qm_vs3 : ValsAt w w.heap.size m_vs3 m_s3 := hm.r_s3
  have qm_vt1 : StrsAt w w.heap.size m_vt1 m_t1 := hm.r_t1
  have qm_vt2 : StrsAt w w.heap.size m_vt2 m_t2 := hm.r_t2
  have qm_pk_vd : Rd w w.heap.size m_pk_vd m_pk_da := hm.r_pk.d
  have qm_vak : Rd w w.heap.size m_vak m_ak := hm.r_ak
  have qm_vpf : LeavesV w w.heap.size m_vpf m_pf_l := hm.r_pf
  have qm_vos : OrdsAt w m_vos m_os := hm.r_os
  obtain ⟨Am_h_vr, Cm_h_vr, rfl⟩ := qm_h_vr.form
  obtain ⟨Am_h_vv, Cm_h_vv, rfl⟩ := qm_h_vv.form
  obtain ⟨Am_h_vn, Cm_h_vn, rfl⟩ := qm_h_vn.form
  obtain ⟨Am_o_vr, Cm_o_vr, rfl⟩ := qm_o_vr.form
  obtain ⟨Am_o_vv, Cm_o_vv, rfl⟩ := qm_o_vv.form
  obtain ⟨Am_o_vn, Cm_o_vn, rfl⟩ := qm_o_vn.form
  obtain ⟨Am_vs1, Cm_vs1, rfl⟩ := qm_vs1.form
  obtain ⟨Am_vs2, Cm_vs2, rfl⟩ := qm_vs2.form
  obtain ⟨Am_vs3, Cm_vs3, rfl⟩ := qm_vs3.form
  obtain ⟨Am_vt1, Cm_vt1, rfl⟩ := qm_vt1.form
  obtain ⟨Am_vt2, Cm_vt2, rfl⟩ := qm_vt2.form
  obtain ⟨Am_pk_vd, Cm_pk_vd, rfl⟩ := qm_pk_vd.form
  obtain ⟨Am_vak, Cm_vak, rfl⟩ := qm_vak.form
  obtain ⟨Am_vpf, Cm_vpf, rfl⟩ := qm_vpf.form
  obtain ⟨Am_vos, Cm_vos, rfl⟩ := qm_vos.form
  clear qm_h_vr qm_h_vv qm_h_vn qm_o_vr qm_o_vv qm_o_vn qm_vs1 qm_vs2 qm_vs3 qm_vt1 qm_vt2 qm_pk_vd qm_vak qm_vpf qm_vos
  simp [StepV.cells, MsgV.cells, Value.oneCell']
end Go.Proofs.YtmphegeiclgjbaaGreatDoor
namespace Go.Proofs.YtmphegeiclgjbaaGreatDoor
set_option maxRecDepth 100000
open Go.RowKit
theorem pTabName : Tryz.prog.globalNamed "internal/strconv.uint64pow10" = some 2 := by kernel_rfl
theorem pTabType : (Tryz.prog.globals[2]?).map (·.type) = some 216 := by kernel_rfl
theorem pTabUnd : Tryz.prog.underlying 216 = some (.array 20 29) := by kernel_rfl
theorem pTabElem : Tryz.prog.underlying 29 = some (.int .u64) := by kernel_rfl
theorem pTabCells : Tryz.prog.cellsOf 216 = 20 := by kernel_rfl
theorem pElemCells : Tryz.prog.cellsOf 29 = 1 := by kernel_rfl
theorem powsOf {W : World} (h : laidMetH Tryz.prog [("internal/strconv.uint64pow10", Rows.laid_internal_strconv_uint64pow10)] W) : Pows W :=
  Lib.tabIs_of_head (rest := []) pTabName pTabType pTabUnd pTabElem pElemCells pTabCells h
end Go.Proofs.YtmphegeiclgjbaaGreatDoor
