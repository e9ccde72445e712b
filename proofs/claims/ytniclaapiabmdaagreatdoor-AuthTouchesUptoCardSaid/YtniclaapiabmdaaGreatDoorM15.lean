/- Texts joined: TxT. -/
import Derived.Test.YtniclaapiabmdaaGreatDoorM14
import Derived.Deep.MidRow
namespace Go.Proofs.YtniclaapiabmdaaGreatDoor
set_option maxRecDepth 100000
open Go Go.RowKit
set_option linter.unusedVariables false

theorem MsgV.one {w : World} (m : MsgV) (hm : m.rd w) : m.cells.toArray.all (·.oneCell') = true := by
  have e20 : m.h.vr.oneCell' = true := by obtain ⟨A, c, e⟩ := hm.r_h.r.form; rw [e]; rfl
  have e21 : m.h.vv.oneCell' = true := by obtain ⟨A, c, e⟩ := hm.r_h.v.form; rw [e]; rfl
  have e22 : m.h.vn.oneCell' = true := by obtain ⟨A, c, e⟩ := hm.r_h.n.form; rw [e]; rfl
  have e26 : m.o.vr.oneCell' = true := by obtain ⟨A, c, e⟩ := hm.r_o.r.form; rw [e]; rfl
  have e27 : m.o.vv.oneCell' = true := by obtain ⟨A, c, e⟩ := hm.r_o.v.form; rw [e]; rfl
  have e28 : m.o.vn.oneCell' = true := by obtain ⟨A, c, e⟩ := hm.r_o.n.form; rw [e]; rfl
  have e29 : m.vs1.oneCell' = true := by obtain ⟨A, c, e, _⟩ := hm.r_s1; rw [e]; rfl
  have e30 : m.vs2.oneCell' = true := by obtain ⟨A, c, e, _⟩ := hm.r_s2; rw [e]; rfl
  have e31 : m.vs3.oneCell' = true := by obtain ⟨A, c, e, _⟩ := hm.r_s3; rw [e]; rfl
  have e32 : m.vt1.oneCell' = true := by obtain ⟨A, c, e, _⟩ := hm.r_t1; rw [e]; rfl
  have e33 : m.vt2.oneCell' = true := by obtain ⟨A, c, e, _⟩ := hm.r_t2; rw [e]; rfl
  have e41 : m.pk.vd.oneCell' = true := by obtain ⟨A, c, e⟩ := hm.r_pk.d.form; rw [e]; rfl
  have e44 : m.vak.oneCell' = true := by obtain ⟨A, c, e⟩ := hm.r_ak.form; rw [e]; rfl
  have e46 : m.vpf.oneCell' = true := by obtain ⟨A, c, e, _⟩ := hm.r_pf; rw [e]; rfl
  have e61 : m.vos.oneCell' = true := by obtain ⟨A, c, e, _⟩ := hm.r_os; rw [e]; rfl
  simp only [List.all_toArray, MsgV.cells, List.all_cons, List.all_nil, Bool.and_true, Bool.and_eq_true]
  exact ⟨rfl, rfl, rfl, rfl, rfl, rfl, rfl, rfl, rfl, rfl, rfl, rfl, rfl, rfl, rfl, rfl, rfl, rfl, rfl, rfl, e20, e21, e22, rfl, rfl, rfl, e26, e27, e28, e29, e30, e31, e32, e33, rfl, rfl, rfl, rfl, rfl, rfl, rfl, e41, rfl, rfl, e44, rfl, e46, rfl, rfl, rfl, rfl, rfl, rfl, rfl, rfl, rfl, rfl, rfl, rfl, rfl, rfl, e61⟩
theorem kept_belowM {w w' : World} (h : Below w.heap.size w w') : Kept w w' := ⟨fun _ => False, Chg.of_below h _, fun _ k => k.elim⟩
theorem there_newM (w : World) (zs : Array Value) (t : TypeId) (n : Nat) (h : n ≤ zs.size) : (w.alloc (.cells zs t)).there w.heap.size 0 n := fun q hq => by
  have hb := heap_alloc_new w (.cells zs t)
  rw [Nat.zero_add]
  refine ⟨?_, blk_free hb q⟩
  rw [blk_cell hb q]
  have : q < zs.size := by omega
  simpa using this
theorem below_setCellsM {B : Nat} {w w' : World} {b : Nat} (h : Below B w w') (hb : B ≤ b) : ∀ (vs : List Value) (o : Nat), Below B w (w'.setCells b o vs)
  | [], o => h
  | v :: vs, o => below_setCellsM (h.setCell (p := ⟨b, o, none⟩) hb v) hb vs (o + 1)
theorem below_newM (w : World) (zs : Array Value) (t : TypeId) (L : List Value) : Below w.heap.size w ((w.alloc (.cells zs t)).setCells w.heap.size 0 L) :=
  below_setCellsM ((Below.refl _ _).alloc (Nat.le_refl _) _) (Nat.le_refl _) L 0
theorem range_newM (w : World) (zs : Array Value) (t : TypeId) (L : List Value) (h : L.length ≤ zs.size) : ((w.alloc (.cells zs t)).setCells w.heap.size 0 L).rangeAt w.heap.size 0 L :=
  World.rangeAt_setCells_same _ _ 0 L (there_newM w zs t L.length h)
theorem range_belowM {w Z : World} {b B : Nat} {L : List Value} (h : w.rangeAt b 0 L) (hb : b < B) (hz : Below B w Z) : Z.rangeAt b 0 L := fun j v hv => (hz.cell (p := ⟨b, 0 + j, none⟩) hb).trans (h j v hv)
theorem size_setM (b : Nat) : ∀ (L : List Value) (o : Nat) (W : World), (W.setCells b o L).heap.size = W.heap.size
  | [], _, _ => rfl
  | v :: vs, o, W => (size_setM b vs (o + 1) (W.setCell ⟨b, o, none⟩ v)).trans (by simp)
section
variable {P : Program} {ops : Array Oper} {d : Option Nat} {rest : List Oper} {a : Act} {Q : Exit → Act → World → Prop} {w : World} {tr : TypeId} {pos : String}
theorem at_loadG (ty : TypeId) {x : Operand} {af} {gd} (h : wpList P ops Q (⟨d, .load ty x, tr, pos, af, some gd⟩ :: rest) a w) : wpList P ops Q (⟨d, .load ty x, tr, pos, af, some gd⟩ :: rest) a w := h
theorem wpList_load_midG {op : Oper} (hw : Region.wanted op (yielded ops a.tmps) = true) (ty : TypeId) (x : Operand) (ho : op.op = .load ty x)
    (b o : Nat) (hx : a.eval x = .pointer (some ⟨b, o, none⟩)) (cs : List Value) (dd : TypeDesc) (hc : w.rangeAt b o cs)
    (hu : P.underlying ty = some dd) (hd : dd.isRow = true) (hi : (P.info? ty).map (·.size) = some cs.length)
    (h : wpList P ops Q rest (a.put op.dst (.agg cs.toArray)) w) : wpList P ops Q (op :: rest) a w :=
  wpList_wanted hw fun _ hK => wp_load_mid ty x ho b o hx cs dd hc hu hd hi (hK _ _ h)
end
structure TxV.rd (W : World) (t : TxV) : Prop where
  sg : t.sg.size ≤ maxLen
  seq : t.seq < 18446744073709551616
  gas : t.gas < 18446744073709551616
  fee : t.fee.ok
  ms : MsgsAt W W.heap.size t.vms t.ms
  msr : ∀ m ∈ t.ms, m.rd W
  sig : Rd W W.heap.size t.vsig t.sig
  ml : t.ms.length ≤ maxLen
theorem msgs_range {W Z : World} {B : Nat} {A : Option Addr} {n c : Nat} {l : List MsgV} (h : MsgsAt W B (.slice A n c) l) (hz : Below B W Z) (j : Nat) (hj : j < l.length) :
    ∃ b o, A = some ⟨b, o, none⟩ ∧ Z.rangeAt b (o + j * 62) l[j].cells := by
  obtain ⟨A', c', e, hp⟩ := h
  injection e with e1 e2 e3
  subst e1
  obtain ⟨b, o, hA, hb, hat⟩ := hp (by omega)
  exact ⟨b, o, hA, fun i u hu => (hz.cell (p := ⟨b, o + j * 62 + i, none⟩) hb).trans (hat j hj i u hu)⟩
section
variable {t : TxV}
theorem fitsE_84 (h : 8 < t.ms.length) : fitsE t = 84 := by unfold fitsE; rw [if_pos h]
theorem fitsE_2 (h : ¬ 8 < t.ms.length) (k : Nat) (hk : k < t.ms.length) (hb : numsB t.ms[k] = false) : fitsE t = 2 := by
  unfold fitsE
  have h2 : ¬ t.ms.all numsB = true := fun e => by rw [List.all_eq_true] at e; have := e _ (List.getElem_mem hk); rw [hb] at this; cases this
  rw [if_neg h, if_neg h2]
theorem fitsE_22 (h : ¬ 8 < t.ms.length) (hn : ∀ k (hk : k < t.ms.length), numsB t.ms[k] = true) (k : Nat) (hk : k < t.ms.length) (hb : (listsB t.ms[k] && fieldsB t.ms[k]) = false) : fitsE t = 22 := by
  unfold fitsE
  have h2 : t.ms.all numsB = true := by rw [List.all_eq_true]; intro x hx; obtain ⟨j, hj, rfl⟩ := List.getElem_of_mem hx; exact hn j hj
  have h3 : ¬ t.ms.all (fun m => listsB m && fieldsB m) = true := fun e => by rw [List.all_eq_true] at e; have := e _ (List.getElem_mem hk); rw [hb] at this; cases this
  rw [if_neg h, if_pos h2, if_neg h3]
theorem fitsE_end (h : ¬ 8 < t.ms.length) (hn : ∀ k (hk : k < t.ms.length), numsB t.ms[k] = true) (hl : ∀ k (hk : k < t.ms.length), (listsB t.ms[k] && fieldsB t.ms[k]) = true) : fitsE t = if t.sg.size ≤ 65535 ∧ t.sig.length ≤ 65535 then 0 else 22 := by
  unfold fitsE
  have h2 : t.ms.all numsB = true := by rw [List.all_eq_true]; intro x hx; obtain ⟨j, hj, rfl⟩ := List.getElem_of_mem hx; exact hn j hj
  have h3 : t.ms.all (fun m => listsB m && fieldsB m) = true := by rw [List.all_eq_true]; intro x hx; obtain ⟨j, hj, rfl⟩ := List.getElem_of_mem hx; exact hl j hj
  rw [if_neg h, if_pos h2, if_pos h3]
end
set_option maxRecDepth 100000 in
set_option maxHeartbeats 40000000 in
theorem fits_tx (w : World) (t : TxV) (hr : t.rd w) :
    Calls Tryz.prog 127 #[.agg t.cells] w fun e w' => e = .returned (.int .i64 (fitsE t)) ∧ Below w.heap.size w w' := by
  obtain ⟨Am, cm, hvm⟩ : ∃ A c, t.vms = .slice A t.ms.length c := by obtain ⟨A, c, e, _⟩ := hr.ms; exact ⟨A, c, e⟩
  obtain ⟨As, cs, hvs⟩ := hr.sig.form
  have hms := hr.ms
  rw [hvm] at hms
  have HMS := Lib.hid (fun (Z : World) (hz : Below w.heap.size w Z) => msgs_range hms hz)
  have HMR := Lib.hid (fun (Z : World) (hz : Below w.heap.size w Z) (k : Nat) (hk : k < t.ms.length) => (hr.msr _ (List.getElem_mem hk)).keptM (kept_belowM hz))
  have ha0 : Below w.heap.size w (w.alloc (.cells t.cells 29)) := (Below.refl _ _).alloc (Nat.le_refl _) _
  have hbox := heap_alloc_new w (.cells t.cells 29)
  have hsz1 : (w.alloc (.cells t.cells 29)).heap.size = w.heap.size + 1 := by simp
  obtain ⟨tc, htc⟩ : ∃ tc, tc = t.cells := ⟨_, rfl⟩
  rw [← htc] at ha0 hbox hsz1 ⊢
  generalize hW1 : w.alloc (.cells tc 29) = W1 at *
  have HC : Hid (∀ Z, Below W1.heap.size W1 Z → Z.cell? ⟨w.heap.size, 0, none⟩ = some (.string t.sg) ∧ Z.cell? ⟨w.heap.size, 7, none⟩ = some (.slice Am t.ms.length cm) ∧ Z.cell? ⟨w.heap.size, 8, none⟩ = some (.slice As t.sig.length cs)) := Lib.hid fun Z hz => ⟨(hz.cell (p := ⟨_, 0, none⟩) (by rw [hsz1]; exact Nat.lt_succ_self _)).trans ((blk_cell hbox 0).trans (by rw [htc]; rfl)), (hz.cell (p := ⟨_, 7, none⟩) (by rw [hsz1]; exact Nat.lt_succ_self _)).trans ((blk_cell hbox 7).trans (by rw [htc, ← hvm]; rfl)), (hz.cell (p := ⟨_, 8, none⟩) (by rw [hsz1]; exact Nat.lt_succ_self _)).trans ((blk_cell hbox 8).trans (by rw [htc, ← hvs]; rfl))⟩
  have HOLD : Hid (∀ Z, Below W1.heap.size W1 Z → Below w.heap.size w Z) := Lib.hid fun Z hz => ha0.trans (hz.mono (by rw [hsz1]; exact Nat.le_succ _))
  obtain ⟨c0, c7, c8⟩ := HC.out _ (Below.refl _ _)
  obtain ⟨n, hnn⟩ : ∃ n, n = t.ms.length := ⟨_, rfl⟩
  have HNN := Lib.hid hnn
  rw [← hnn] at HC c7
  have HNM : Hid (n ≤ 9223372036854775807) := Lib.hid (by rw [hnn]; exact Nat.le_trans hr.ml (by decide))
  obtain ⟨rs, hrs⟩ : ∃ rs, rs = fitsE t := ⟨_, rfl⟩
  rw [← hrs]
  have HRS := Lib.hid hrs
  generalize hg1 : w.heap.size = g0 at *
  have HGG := Lib.hid hg1
  clear hbox ha0 hsz1 hms hr hvm hvs htc hnn hrs
  go_enter Tryz.func127, Tryz.ntmps127
  by_cases h8 : 8 < n
  · have h9 : (8 : Int) < (n : Int) := by omega
    have hres := Lib.hid (HRS.out.trans (fitsE_84 (by rw [← HNN.out]; exact h8)))
    have hfin := Lib.hid (HOLD.out _ (Below.refl _ _))
    clear h8
    go_wp2_with fail
    go_ret
    try rw [hW1]
    refine ⟨?_, hfin.out⟩
    rw [hres.out]
    rfl
  have h9 : ¬ (8 : Int) < (n : Int) := by omega
  have H8 : Hid (¬ 8 < t.ms.length) := Lib.hid (by rw [← HNN.out]; exact h8)
  clear h8
  go_upto_block 0 with fail
  try rw [hW1]
  try rw [hg1]
  clear hW1 c0 c7 c8 hg1
  go_cut [] (fun wx => Hid (Below W1.heap.size W1 wx ∧ ∀ k (hk : k < t.ms.length), numsB t.ms[k] = true))
  case first =>
    go_wp2_with fail
    go_loopw [14] (fun i wr => ∃ k : Nat, k ≤ n ∧ i = .int .i64 (k : Int) ∧ Hid (Below W1.heap.size W1 wr ∧ ∀ j (h : j < t.ms.length), j < k → numsB t.ms[j] = true))
      (fun i _ => n - (intOf i).toNat)
    case atStart => exact ⟨0, Nat.zero_le _, rfl, Lib.hid ⟨Below.refl _ _, fun j _ h => absurd h (by omega)⟩⟩
    case round =>
      obtain ⟨k, hk, rfl, HX⟩ := hrel
      by_cases hlt : k < n
      · have hkm : (k : Int) + 1 ≤ 9223372036854775807 := by have := HNM.out; omega
        have hkl : k < t.ms.length := by have := HNN.out; omega
        obtain ⟨b, o, rfl, hrng⟩ := HMS.out wr (HOLD.out _ HX.out.1) k hkl
        have hm0 := HMR.out wr (HOLD.out _ HX.out.1) k hkl
        have i1 : (0 : Int) ≤ (k : Int) := by omega
        have i2 : (k : Int) < (n : Int) := by omega
        have HK : Hid (∀ b, numsB t.ms[k] = b → (b = true → (∀ j (h : j < t.ms.length), j < k + 1 → numsB t.ms[j] = true)) ∧ (b = false → rs = 2)) := Lib.hid fun b hb => ⟨fun e j h hj => by
          by_cases hjk : j = k
          · subst hjk; rw [hb]; exact e
          · exact HX.out.2 j h (by omega), fun e => HRS.out.trans (fitsE_2 H8.out k hkl (by rw [hb, e]))⟩
        generalize t.ms[k] = m at *
        obtain ⟨SL, hSL⟩ : ∃ L : List Value, L = m.cells := ⟨_, rfl⟩
        rw [← hSL] at hrng
        have hl62 : SL.length = 62 := by rw [hSL]; rfl
        have HRNG := Lib.hid hrng
        have HINF : Hid ((Tryz.prog.info? 175).map (·.size) = some SL.length) := Lib.hid (by rw [hl62]; kernel_rfl)
        have HONE : Hid (SL.toArray.all (·.oneCell') = true) := Lib.hid (by rw [hSL]; exact m.one hm0)
        have HSL := Lib.hid hSL
        have hz62 : Array.size (#[.int .i64 0, .string ⟨#[]⟩, .string ⟨#[]⟩, .int .u64 0, .int .u64 0, .int .u64 0, .int .u64 0, .string ⟨#[]⟩, .string ⟨#[]⟩, .string ⟨#[]⟩, .string ⟨#[]⟩, .string ⟨#[]⟩, .string ⟨#[]⟩, .string ⟨#[]⟩, .string ⟨#[]⟩, .string ⟨#[]⟩, .bool false, .string ⟨#[]⟩, .int .u64 0, .int .u64 0, .slice none 0 0, .slice none 0 0, .slice none 0 0, .string ⟨#[]⟩, .int .u64 0, .int .u64 0, .slice none 0 0, .slice none 0 0, .slice none 0 0, .slice none 0 0, .slice none 0 0, .slice none 0 0, .slice none 0 0, .slice none 0 0, .int .u64 0, .int .u64 0, .int .u64 0, .int .u64 0, .string ⟨#[]⟩, .string ⟨#[]⟩, .int .u64 0, .slice none 0 0, .int .u64 0, .int .u64 0, .slice none 0 0, .int .i64 0, .slice none 0 0, .int .u64 0, .string ⟨#[]⟩, .int .u64 0, .int .u64 0, .int .u64 0, .int .u64 0, .int .u64 0, .int .u64 0, .int .u64 0, .int .u64 0, .int .u64 0, .int .u64 0, .int .u64 0, .int .u64 0, .slice none 0 0] : Array Value) = 62 := by rfl
        have HTH : Hid ((wr.alloc (.cells #[.int .i64 0, .string ⟨#[]⟩, .string ⟨#[]⟩, .int .u64 0, .int .u64 0, .int .u64 0, .int .u64 0, .string ⟨#[]⟩, .string ⟨#[]⟩, .string ⟨#[]⟩, .string ⟨#[]⟩, .string ⟨#[]⟩, .string ⟨#[]⟩, .string ⟨#[]⟩, .string ⟨#[]⟩, .string ⟨#[]⟩, .bool false, .string ⟨#[]⟩, .int .u64 0, .int .u64 0, .slice none 0 0, .slice none 0 0, .slice none 0 0, .string ⟨#[]⟩, .int .u64 0, .int .u64 0, .slice none 0 0, .slice none 0 0, .slice none 0 0, .slice none 0 0, .slice none 0 0, .slice none 0 0, .slice none 0 0, .slice none 0 0, .int .u64 0, .int .u64 0, .int .u64 0, .int .u64 0, .string ⟨#[]⟩, .string ⟨#[]⟩, .int .u64 0, .slice none 0 0, .int .u64 0, .int .u64 0, .slice none 0 0, .int .i64 0, .slice none 0 0, .int .u64 0, .string ⟨#[]⟩, .int .u64 0, .int .u64 0, .int .u64 0, .int .u64 0, .int .u64 0, .int .u64 0, .int .u64 0, .int .u64 0, .int .u64 0, .int .u64 0, .int .u64 0, .int .u64 0, .slice none 0 0] 175)).there wr.heap.size 0 SL.toArray.size) := Lib.hid (there_newM _ _ _ _ (by rw [hz62]; simp [hl62]))
        have hrg0 := range_newM wr #[.int .i64 0, .string ⟨#[]⟩, .string ⟨#[]⟩, .int .u64 0, .int .u64 0, .int .u64 0, .int .u64 0, .string ⟨#[]⟩, .string ⟨#[]⟩, .string ⟨#[]⟩, .string ⟨#[]⟩, .string ⟨#[]⟩, .string ⟨#[]⟩, .string ⟨#[]⟩, .string ⟨#[]⟩, .string ⟨#[]⟩, .bool false, .string ⟨#[]⟩, .int .u64 0, .int .u64 0, .slice none 0 0, .slice none 0 0, .slice none 0 0, .string ⟨#[]⟩, .int .u64 0, .int .u64 0, .slice none 0 0, .slice none 0 0, .slice none 0 0, .slice none 0 0, .slice none 0 0, .slice none 0 0, .slice none 0 0, .slice none 0 0, .int .u64 0, .int .u64 0, .int .u64 0, .int .u64 0, .string ⟨#[]⟩, .string ⟨#[]⟩, .int .u64 0, .slice none 0 0, .int .u64 0, .int .u64 0, .slice none 0 0, .int .i64 0, .slice none 0 0, .int .u64 0, .string ⟨#[]⟩, .int .u64 0, .int .u64 0, .int .u64 0, .int .u64 0, .int .u64 0, .int .u64 0, .int .u64 0, .int .u64 0, .int .u64 0, .int .u64 0, .int .u64 0, .int .u64 0, .slice none 0 0] 175 SL (by rw [hz62, hl62]; exact Nat.le_refl _)
        have hb0 := below_newM wr #[.int .i64 0, .string ⟨#[]⟩, .string ⟨#[]⟩, .int .u64 0, .int .u64 0, .int .u64 0, .int .u64 0, .string ⟨#[]⟩, .string ⟨#[]⟩, .string ⟨#[]⟩, .string ⟨#[]⟩, .string ⟨#[]⟩, .string ⟨#[]⟩, .string ⟨#[]⟩, .string ⟨#[]⟩, .string ⟨#[]⟩, .bool false, .string ⟨#[]⟩, .int .u64 0, .int .u64 0, .slice none 0 0, .slice none 0 0, .slice none 0 0, .string ⟨#[]⟩, .int .u64 0, .int .u64 0, .slice none 0 0, .slice none 0 0, .slice none 0 0, .slice none 0 0, .slice none 0 0, .slice none 0 0, .slice none 0 0, .slice none 0 0, .int .u64 0, .int .u64 0, .int .u64 0, .int .u64 0, .string ⟨#[]⟩, .string ⟨#[]⟩, .int .u64 0, .slice none 0 0, .int .u64 0, .int .u64 0, .slice none 0 0, .int .i64 0, .slice none 0 0, .int .u64 0, .string ⟨#[]⟩, .int .u64 0, .int .u64 0, .int .u64 0, .int .u64 0, .int .u64 0, .int .u64 0, .int .u64 0, .int .u64 0, .int .u64 0, .int .u64 0, .int .u64 0, .int .u64 0, .slice none 0 0] 175 SL
        have HRG0 := Lib.hid hrg0
        have hgs : wr.heap.size < ((wr.alloc (.cells #[.int .i64 0, .string ⟨#[]⟩, .string ⟨#[]⟩, .int .u64 0, .int .u64 0, .int .u64 0, .int .u64 0, .string ⟨#[]⟩, .string ⟨#[]⟩, .string ⟨#[]⟩, .string ⟨#[]⟩, .string ⟨#[]⟩, .string ⟨#[]⟩, .string ⟨#[]⟩, .string ⟨#[]⟩, .string ⟨#[]⟩, .bool false, .string ⟨#[]⟩, .int .u64 0, .int .u64 0, .slice none 0 0, .slice none 0 0, .slice none 0 0, .string ⟨#[]⟩, .int .u64 0, .int .u64 0, .slice none 0 0, .slice none 0 0, .slice none 0 0, .slice none 0 0, .slice none 0 0, .slice none 0 0, .slice none 0 0, .slice none 0 0, .int .u64 0, .int .u64 0, .int .u64 0, .int .u64 0, .string ⟨#[]⟩, .string ⟨#[]⟩, .int .u64 0, .slice none 0 0, .int .u64 0, .int .u64 0, .slice none 0 0, .int .i64 0, .slice none 0 0, .int .u64 0, .string ⟨#[]⟩, .int .u64 0, .int .u64 0, .int .u64 0, .int .u64 0, .int .u64 0, .int .u64 0, .int .u64 0, .int .u64 0, .int .u64 0, .int .u64 0, .int .u64 0, .int .u64 0, .slice none 0 0] 175)).setCells wr.heap.size 0 SL).heap.size := by rw [size_setM]; simp
        have HBX := Lib.hid (And.intro hgs (And.intro (below_chain HX.out.1 HX.out.1.size hb0) hb0))
        have hm1 := hm0.keptM (kept_belowM hb0)
        clear hrng hl62 hSL hz62 hrg0 hb0 hgs hm0
        obtain ⟨bb, hbb⟩ : ∃ bb, bb = numsB m := ⟨_, rfl⟩
        have HK2 := Lib.hid (HK.out bb hbb.symm)
        have ND := numsfit_any _ m hm1
        rw [← hbb, ← HSL.out] at ND
        have HND := Lib.hid ND
        clear HK ND hbb hm1
        go_wp2_with (first
          | (with_reducible refine at_load 175 ?_; refine wpList_load_mid rfl 175 (.tmp 4) rfl wr.heap.size 0 rfl SL _ HRG0.out Tryz.underlying175 rfl HINF.out ?_)
          | (with_reducible refine at_load 175 ?_; refine wpList_load_mid rfl 175 (.tmp 16) rfl b (o + k * 62) rfl SL _ HRNG.out Tryz.underlying175 rfl HINF.out ?_)
          | (with_reducible refine at_store 175 ?_; refine wpList_store_mid rfl 175 (.tmp 4) (.tmp 17) rfl wr.heap.size 0 SL.toArray rfl rfl HTH.out (by have := HINF.out; simpa using this) HONE.out ?_))
        try simp only [List.toList_toArray]
        refine HND.out.mono ?_
        rintro e w6 ⟨rfl, hb6⟩
        have HB6 := Lib.hid (below_chain HBX.out.2.1 HBX.out.2.1.size hb6)
        clear HND hb6
        cases bb
        · have HF := Lib.hid (HOLD.out _ HB6.out)
          go_wp2_with fail
          go_ret
          refine ⟨?_, HF.out⟩
          rw [HK2.out.2 (by simp)]
          rfl
        · have HNX := Lib.hid (And.intro HB6.out (HK2.out.1 rfl))
          go_wp2_with fail
          exact ⟨⟨k + 1, by omega, by go_num, HNX⟩, by simp [intOf]; omega⟩
      · have hk2 : ¬ (k : Int) < (n : Int) := by omega
        obtain rfl : k = n := by omega
        have HNX : Hid (Below W1.heap.size W1 wr ∧ ∀ k (hk : k < t.ms.length), numsB t.ms[k] = true) := Lib.hid ⟨HX.out.1, fun j hj => HX.out.2 j hj (by rw [HNN.out]; exact hj)⟩
        clear HX
        go_wp2_with fail
        go_meet
        case rel => exact HNX
  case rest =>
    have HNU := Lib.hid hcut.out.2
    have HB0 := Lib.hid hcut.out.1
    obtain ⟨c0, c7, c8⟩ := HC.out _ hcut.out.1
    clear hcut
    go_upto_block 2 with fail
    clear c0 c7 c8
    go_cut [] (fun wx => Hid (Below W1.heap.size W1 wx ∧ ∀ k (hk : k < t.ms.length), (listsB t.ms[k] && fieldsB t.ms[k]) = true))
    case first =>
      go_wp2_with fail
      go_loopw [25] (fun i wr => ∃ k : Nat, k ≤ n ∧ i = .int .i64 (k : Int) ∧ Hid (Below W1.heap.size W1 wr ∧ ∀ j (h : j < t.ms.length), j < k → (listsB t.ms[j] && fieldsB t.ms[j]) = true))
        (fun i _ => n - (intOf i).toNat)
      case atStart => exact ⟨0, Nat.zero_le _, rfl, Lib.hid ⟨HB0.out, fun j _ h => absurd h (by omega)⟩⟩
      case round =>
        clear HB0
        obtain ⟨k, hk, rfl, HX⟩ := hrel
        by_cases hlt : k < n
        · have hkm : (k : Int) + 1 ≤ 9223372036854775807 := by have := HNM.out; omega
          have hkl : k < t.ms.length := by have := HNN.out; omega
          obtain ⟨b, o, rfl, hrng⟩ := HMS.out wr (HOLD.out _ HX.out.1) k hkl
          have hm0 := HMR.out wr (HOLD.out _ HX.out.1) k hkl
          have i1 : (0 : Int) ≤ (k : Int) := by omega
          have i2 : (k : Int) < (n : Int) := by omega
          have HK : Hid (∀ b, (listsB t.ms[k] && fieldsB t.ms[k]) = b → (b = true → (∀ j (h : j < t.ms.length), j < k + 1 → (listsB t.ms[j] && fieldsB t.ms[j]) = true)) ∧ (b = false → rs = 22)) := Lib.hid fun b hb => ⟨fun e j h hj => by
            by_cases hjk : j = k
            · subst hjk; rw [hb]; exact e
            · exact HX.out.2 j h (by omega), fun e => HRS.out.trans (fitsE_22 H8.out HNU.out k hkl (by rw [hb, e]))⟩
          generalize t.ms[k] = m at *
          obtain ⟨SL, hSL⟩ : ∃ L : List Value, L = m.cells := ⟨_, rfl⟩
          rw [← hSL] at hrng
          have hl62 : SL.length = 62 := by rw [hSL]; rfl
          have HRNG := Lib.hid hrng
          have HINF : Hid ((Tryz.prog.info? 175).map (·.size) = some SL.length) := Lib.hid (by rw [hl62]; kernel_rfl)
          have HONE : Hid (SL.toArray.all (·.oneCell') = true) := Lib.hid (by rw [hSL]; exact m.one hm0)
          have HSL := Lib.hid hSL
          have hz62 : Array.size (#[.int .i64 0, .string ⟨#[]⟩, .string ⟨#[]⟩, .int .u64 0, .int .u64 0, .int .u64 0, .int .u64 0, .string ⟨#[]⟩, .string ⟨#[]⟩, .string ⟨#[]⟩, .string ⟨#[]⟩, .string ⟨#[]⟩, .string ⟨#[]⟩, .string ⟨#[]⟩, .string ⟨#[]⟩, .string ⟨#[]⟩, .bool false, .string ⟨#[]⟩, .int .u64 0, .int .u64 0, .slice none 0 0, .slice none 0 0, .slice none 0 0, .string ⟨#[]⟩, .int .u64 0, .int .u64 0, .slice none 0 0, .slice none 0 0, .slice none 0 0, .slice none 0 0, .slice none 0 0, .slice none 0 0, .slice none 0 0, .slice none 0 0, .int .u64 0, .int .u64 0, .int .u64 0, .int .u64 0, .string ⟨#[]⟩, .string ⟨#[]⟩, .int .u64 0, .slice none 0 0, .int .u64 0, .int .u64 0, .slice none 0 0, .int .i64 0, .slice none 0 0, .int .u64 0, .string ⟨#[]⟩, .int .u64 0, .int .u64 0, .int .u64 0, .int .u64 0, .int .u64 0, .int .u64 0, .int .u64 0, .int .u64 0, .int .u64 0, .int .u64 0, .int .u64 0, .int .u64 0, .slice none 0 0] : Array Value) = 62 := by rfl
          have HTH : Hid ((wr.alloc (.cells #[.int .i64 0, .string ⟨#[]⟩, .string ⟨#[]⟩, .int .u64 0, .int .u64 0, .int .u64 0, .int .u64 0, .string ⟨#[]⟩, .string ⟨#[]⟩, .string ⟨#[]⟩, .string ⟨#[]⟩, .string ⟨#[]⟩, .string ⟨#[]⟩, .string ⟨#[]⟩, .string ⟨#[]⟩, .string ⟨#[]⟩, .bool false, .string ⟨#[]⟩, .int .u64 0, .int .u64 0, .slice none 0 0, .slice none 0 0, .slice none 0 0, .string ⟨#[]⟩, .int .u64 0, .int .u64 0, .slice none 0 0, .slice none 0 0, .slice none 0 0, .slice none 0 0, .slice none 0 0, .slice none 0 0, .slice none 0 0, .slice none 0 0, .int .u64 0, .int .u64 0, .int .u64 0, .int .u64 0, .string ⟨#[]⟩, .string ⟨#[]⟩, .int .u64 0, .slice none 0 0, .int .u64 0, .int .u64 0, .slice none 0 0, .int .i64 0, .slice none 0 0, .int .u64 0, .string ⟨#[]⟩, .int .u64 0, .int .u64 0, .int .u64 0, .int .u64 0, .int .u64 0, .int .u64 0, .int .u64 0, .int .u64 0, .int .u64 0, .int .u64 0, .int .u64 0, .int .u64 0, .slice none 0 0] 175)).there wr.heap.size 0 SL.toArray.size) := Lib.hid (there_newM _ _ _ _ (by rw [hz62]; simp [hl62]))
          have hrg0 := range_newM wr #[.int .i64 0, .string ⟨#[]⟩, .string ⟨#[]⟩, .int .u64 0, .int .u64 0, .int .u64 0, .int .u64 0, .string ⟨#[]⟩, .string ⟨#[]⟩, .string ⟨#[]⟩, .string ⟨#[]⟩, .string ⟨#[]⟩, .string ⟨#[]⟩, .string ⟨#[]⟩, .string ⟨#[]⟩, .string ⟨#[]⟩, .bool false, .string ⟨#[]⟩, .int .u64 0, .int .u64 0, .slice none 0 0, .slice none 0 0, .slice none 0 0, .string ⟨#[]⟩, .int .u64 0, .int .u64 0, .slice none 0 0, .slice none 0 0, .slice none 0 0, .slice none 0 0, .slice none 0 0, .slice none 0 0, .slice none 0 0, .slice none 0 0, .int .u64 0, .int .u64 0, .int .u64 0, .int .u64 0, .string ⟨#[]⟩, .string ⟨#[]⟩, .int .u64 0, .slice none 0 0, .int .u64 0, .int .u64 0, .slice none 0 0, .int .i64 0, .slice none 0 0, .int .u64 0, .string ⟨#[]⟩, .int .u64 0, .int .u64 0, .int .u64 0, .int .u64 0, .int .u64 0, .int .u64 0, .int .u64 0, .int .u64 0, .int .u64 0, .int .u64 0, .int .u64 0, .int .u64 0, .slice none 0 0] 175 SL (by rw [hz62, hl62]; exact Nat.le_refl _)
          have hb0 := below_newM wr #[.int .i64 0, .string ⟨#[]⟩, .string ⟨#[]⟩, .int .u64 0, .int .u64 0, .int .u64 0, .int .u64 0, .string ⟨#[]⟩, .string ⟨#[]⟩, .string ⟨#[]⟩, .string ⟨#[]⟩, .string ⟨#[]⟩, .string ⟨#[]⟩, .string ⟨#[]⟩, .string ⟨#[]⟩, .string ⟨#[]⟩, .bool false, .string ⟨#[]⟩, .int .u64 0, .int .u64 0, .slice none 0 0, .slice none 0 0, .slice none 0 0, .string ⟨#[]⟩, .int .u64 0, .int .u64 0, .slice none 0 0, .slice none 0 0, .slice none 0 0, .slice none 0 0, .slice none 0 0, .slice none 0 0, .slice none 0 0, .slice none 0 0, .int .u64 0, .int .u64 0, .int .u64 0, .int .u64 0, .string ⟨#[]⟩, .string ⟨#[]⟩, .int .u64 0, .slice none 0 0, .int .u64 0, .int .u64 0, .slice none 0 0, .int .i64 0, .slice none 0 0, .int .u64 0, .string ⟨#[]⟩, .int .u64 0, .int .u64 0, .int .u64 0, .int .u64 0, .int .u64 0, .int .u64 0, .int .u64 0, .int .u64 0, .int .u64 0, .int .u64 0, .int .u64 0, .int .u64 0, .slice none 0 0] 175 SL
          have HRG0 := Lib.hid hrg0
          have hgs : wr.heap.size < ((wr.alloc (.cells #[.int .i64 0, .string ⟨#[]⟩, .string ⟨#[]⟩, .int .u64 0, .int .u64 0, .int .u64 0, .int .u64 0, .string ⟨#[]⟩, .string ⟨#[]⟩, .string ⟨#[]⟩, .string ⟨#[]⟩, .string ⟨#[]⟩, .string ⟨#[]⟩, .string ⟨#[]⟩, .string ⟨#[]⟩, .string ⟨#[]⟩, .bool false, .string ⟨#[]⟩, .int .u64 0, .int .u64 0, .slice none 0 0, .slice none 0 0, .slice none 0 0, .string ⟨#[]⟩, .int .u64 0, .int .u64 0, .slice none 0 0, .slice none 0 0, .slice none 0 0, .slice none 0 0, .slice none 0 0, .slice none 0 0, .slice none 0 0, .slice none 0 0, .int .u64 0, .int .u64 0, .int .u64 0, .int .u64 0, .string ⟨#[]⟩, .string ⟨#[]⟩, .int .u64 0, .slice none 0 0, .int .u64 0, .int .u64 0, .slice none 0 0, .int .i64 0, .slice none 0 0, .int .u64 0, .string ⟨#[]⟩, .int .u64 0, .int .u64 0, .int .u64 0, .int .u64 0, .int .u64 0, .int .u64 0, .int .u64 0, .int .u64 0, .int .u64 0, .int .u64 0, .int .u64 0, .int .u64 0, .slice none 0 0] 175)).setCells wr.heap.size 0 SL).heap.size := by rw [size_setM]; simp
          have HBX := Lib.hid (And.intro hgs (And.intro (below_chain HX.out.1 HX.out.1.size hb0) hb0))
          have hm1 := hm0.keptM (kept_belowM hb0)
          clear hrng hl62 hSL hz62 hrg0 hb0 hgs hm0
          have LD := listsfit_any _ m hm1
          rw [← HSL.out] at LD
          cases hlb : listsB m
          · have HRE := Lib.hid ((HK.out false (by rw [hlb]; rfl)).2 rfl)
            rw [hlb] at LD
            have HLD := Lib.hid LD
            clear HK LD hlb hm1
            go_wp2_with (first
              | (with_reducible refine at_load 175 ?_; refine wpList_load_mid rfl 175 (.tmp 6) rfl wr.heap.size 0 rfl SL _ HRG0.out Tryz.underlying175 rfl HINF.out ?_)
              | (with_reducible refine at_load 175 ?_; refine wpList_load_mid rfl 175 (.tmp 27) rfl b (o + k * 62) rfl SL _ HRNG.out Tryz.underlying175 rfl HINF.out ?_)
              | (with_reducible refine at_store 175 ?_; refine wpList_store_mid rfl 175 (.tmp 6) (.tmp 28) rfl wr.heap.size 0 SL.toArray rfl rfl HTH.out (by have := HINF.out; simpa using this) HONE.out ?_))
            try simp only [List.toList_toArray]
            refine HLD.out.mono ?_
            rintro e w6 ⟨rfl, hb6⟩
            have HF := Lib.hid (HOLD.out _ (below_chain HBX.out.2.1 HBX.out.2.1.size hb6))
            clear HLD hb6
            go_wp2_with fail
            go_ret
            refine ⟨?_, HF.out⟩
            rw [HRE.out]
            rfl
          · have hLB := (listsB_iff m).1 hlb
            obtain ⟨bb, hbb⟩ : ∃ bb, bb = fieldsB m := ⟨_, rfl⟩
            have HK2 := Lib.hid (HK.out bb (by rw [hlb, hbb]; rfl))
            have HFD : Hid (∀ Z, Below ((wr.alloc (.cells #[.int .i64 0, .string ⟨#[]⟩, .string ⟨#[]⟩, .int .u64 0, .int .u64 0, .int .u64 0, .int .u64 0, .string ⟨#[]⟩, .string ⟨#[]⟩, .string ⟨#[]⟩, .string ⟨#[]⟩, .string ⟨#[]⟩, .string ⟨#[]⟩, .string ⟨#[]⟩, .string ⟨#[]⟩, .string ⟨#[]⟩, .bool false, .string ⟨#[]⟩, .int .u64 0, .int .u64 0, .slice none 0 0, .slice none 0 0, .slice none 0 0, .string ⟨#[]⟩, .int .u64 0, .int .u64 0, .slice none 0 0, .slice none 0 0, .slice none 0 0, .slice none 0 0, .slice none 0 0, .slice none 0 0, .slice none 0 0, .slice none 0 0, .int .u64 0, .int .u64 0, .int .u64 0, .int .u64 0, .string ⟨#[]⟩, .string ⟨#[]⟩, .int .u64 0, .slice none 0 0, .int .u64 0, .int .u64 0, .slice none 0 0, .int .i64 0, .slice none 0 0, .int .u64 0, .string ⟨#[]⟩, .int .u64 0, .int .u64 0, .int .u64 0, .int .u64 0, .int .u64 0, .int .u64 0, .int .u64 0, .int .u64 0, .int .u64 0, .int .u64 0, .int .u64 0, .int .u64 0, .slice none 0 0] 175)).setCells wr.heap.size 0 SL).heap.size ((wr.alloc (.cells #[.int .i64 0, .string ⟨#[]⟩, .string ⟨#[]⟩, .int .u64 0, .int .u64 0, .int .u64 0, .int .u64 0, .string ⟨#[]⟩, .string ⟨#[]⟩, .string ⟨#[]⟩, .string ⟨#[]⟩, .string ⟨#[]⟩, .string ⟨#[]⟩, .string ⟨#[]⟩, .string ⟨#[]⟩, .string ⟨#[]⟩, .bool false, .string ⟨#[]⟩, .int .u64 0, .int .u64 0, .slice none 0 0, .slice none 0 0, .slice none 0 0, .string ⟨#[]⟩, .int .u64 0, .int .u64 0, .slice none 0 0, .slice none 0 0, .slice none 0 0, .slice none 0 0, .slice none 0 0, .slice none 0 0, .slice none 0 0, .slice none 0 0, .int .u64 0, .int .u64 0, .int .u64 0, .int .u64 0, .string ⟨#[]⟩, .string ⟨#[]⟩, .int .u64 0, .slice none 0 0, .int .u64 0, .int .u64 0, .slice none 0 0, .int .i64 0, .slice none 0 0, .int .u64 0, .string ⟨#[]⟩, .int .u64 0, .int .u64 0, .int .u64 0, .int .u64 0, .int .u64 0, .int .u64 0, .int .u64 0, .int .u64 0, .int .u64 0, .int .u64 0, .int .u64 0, .int .u64 0, .slice none 0 0] 175)).setCells wr.heap.size 0 SL) Z → Calls Tryz.prog 168 #[.agg SL.toArray] Z fun e w' => e = .returned (.bool bb) ∧ Below Z.heap.size Z w') := Lib.hid fun Z hz => by
              have h := fieldsfit_any Z m (hm1.keptM (kept_belowM hz)) hLB
              rw [← hbb, ← HSL.out] at h
              exact h
            rw [hlb] at LD
            have HLD := Lib.hid LD
            clear HK LD hlb hm1 hLB hbb
            go_wp2_with (first
              | (with_reducible refine at_load 175 ?_; refine wpList_load_mid rfl 175 (.tmp 6) rfl wr.heap.size 0 rfl SL _ HRG0.out Tryz.underlying175 rfl HINF.out ?_)
              | (with_reducible refine at_load 175 ?_; refine wpList_load_mid rfl 175 (.tmp 27) rfl b (o + k * 62) rfl SL _ HRNG.out Tryz.underlying175 rfl HINF.out ?_)
              | (with_reducible refine at_store 175 ?_; refine wpList_store_mid rfl 175 (.tmp 6) (.tmp 28) rfl wr.heap.size 0 SL.toArray rfl rfl HTH.out (by have := HINF.out; simpa using this) HONE.out ?_))
            try simp only [List.toList_toArray]
            refine HLD.out.mono ?_
            rintro e w6 ⟨rfl, hb6⟩
            have HRG6 := Lib.hid (range_belowM HRG0.out HBX.out.1 hb6)
            have HFD6 := Lib.hid (HFD.out _ hb6)
            have HB6 := Lib.hid (below_chain HBX.out.2.1 HBX.out.2.1.size hb6)
            clear HLD hb6 HFD
            go_wp2_with (with_reducible refine at_loadG 175 ?_; refine wpList_load_midG rfl 175 (.tmp 6) rfl wr.heap.size 0 rfl SL _ HRG6.out Tryz.underlying175 rfl HINF.out ?_)
            refine HFD6.out.mono ?_
            rintro e w7 ⟨rfl, hb7⟩
            have HB7 := Lib.hid (below_chain HB6.out HB6.out.size hb7)
            clear HFD6 hb7
            cases bb
            · have HF := Lib.hid (HOLD.out _ HB7.out)
              go_wp2_with fail
              go_ret
              refine ⟨?_, HF.out⟩
              rw [HK2.out.2 (by simp)]
              rfl
            · have HNX := Lib.hid (And.intro HB7.out (HK2.out.1 rfl))
              go_wp2_with fail
              exact ⟨⟨k + 1, by omega, by go_num, HNX⟩, by simp [intOf]; omega⟩
        · have hk2 : ¬ (k : Int) < (n : Int) := by omega
          obtain rfl : k = n := by omega
          have HNX : Hid (Below W1.heap.size W1 wr ∧ ∀ k (hk : k < t.ms.length), (listsB t.ms[k] && fieldsB t.ms[k]) = true) := Lib.hid ⟨HX.out.1, fun j hj => HX.out.2 j hj (by rw [HNN.out]; exact hj)⟩
          clear HX
          go_wp2_with fail
          go_meet
          case rel => exact HNX
    case rest =>
      have HE := Lib.hid (HRS.out.trans (fitsE_end H8.out HNU.out hcut.out.2))
      have HF := Lib.hid (HOLD.out _ hcut.out.1)
      obtain ⟨c0, c7, c8⟩ := HC.out _ hcut.out.1
      clear hcut HNU HB0 HMS HMR
      generalize t.sig.length = sl at *
      by_cases h1 : t.sg.size ≤ 65535
      · have k1 : ¬ (65535 : Int) < (t.sg.size : Int) := by omega
        by_cases h2 : sl ≤ 65535
        · have k2 : ¬ (65535 : Int) < (sl : Int) := by omega
          have hres := Lib.hid (HE.out.trans (if_pos ⟨h1, h2⟩))
          clear h1 h2 HE
          go_wp2_with fail
          go_ret
          refine ⟨?_, HF.out⟩
          rw [hres.out]
          rfl
        · have k2 : (65535 : Int) < (sl : Int) := by omega
          have hres := Lib.hid (HE.out.trans (if_neg (fun h => h2 h.2)))
          clear h1 h2 HE
          go_wp2_with fail
          go_ret
          refine ⟨?_, HF.out⟩
          rw [hres.out]
          rfl
      · have k1 : (65535 : Int) < (t.sg.size : Int) := by omega
        have hres := Lib.hid (HE.out.trans (if_neg (fun h => h1 h.1)))
        clear h1 HE
        go_wp2_with fail
        go_ret
        refine ⟨?_, HF.out⟩
        rw [hres.out]
        rfl
end Go.Proofs.YtniclaapiabmdaaGreatDoor
