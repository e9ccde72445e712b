
/- The law: the bytes that a number, bytes, a text or a flag were taken from are those that the like put makes; a fault takes nothing, and stays; and what a reader that there isn't answers. -/
import Derived.Test.YtpcoonnfaoakhaaWireNil
import Derived.Test.YtpcoonnfaoakhaaOps
import Derived.Test.YtpcoonnfaoakhaaEnc
import Derived.Deep.LoopGhost
import Derived.Deep.CutBlock
import Derived.Deep.DeepCutAuto
namespace Go.Proofs.Ytpcoonnfaoakhaa
set_option maxRecDepth 100000
open Go Go.RowKit
set_option linter.unusedVariables false

theorem rN_ltQ (l : List UInt8) (f : Int) : (rN l f).1 < 18446744073709551616 := by
  unfold rN
  split
  · show 0 < _; omega
  · split
    · show 0 < _; omega
    · have := beVal_lt8 (l.take 8) 8 (by simp; omega)
      show beVal (l.take 8) < _
      omega
theorem be4_pos (n : List UInt8) : 0 < (encB n).length := by
  unfold encB
  rw [List.length_append, be_length]
  omega
theorem same_yes3 (a b : Value) (l : List UInt8) (w : World) (ha : Rd w w.heap.size a l) (hb : Rd w w.heap.size b l) :
    Calls Try.prog 15 #[a, b] w fun e w' => e = .returned (.bool true) ∧ Below w.heap.size w w' := by
  have h := same_any a b l l w ha hb
  rw [sameB_refl] at h
  exact h
/-- the piece that a put stands at -/
theorem rd_put {w : World} {B : Nat} {A : Option Addr} {n c : Nat} {l rest put rest' : List UInt8} (hr : Rd w B (.slice A n c) l) (hl : ∃ pre, l = pre ++ rest) (he : rest = put ++ rest') (hp : 0 < put.length) :
    ∃ b o, A = some ⟨b, o, none⟩ ∧ n = l.length ∧ l.length ≤ c ∧ Rd w B (.slice (some ⟨b, o + (l.length - rest.length), none⟩) ((l.length - rest'.length) - (l.length - rest.length)) (c - (l.length - rest.length))) put := by
  obtain ⟨pre, rfl⟩ := hl
  subst he
  obtain ⟨A', c', e, h1, h2, hq⟩ := hr
  injection e with e1 e2 e3
  subst e1; subst e3
  obtain ⟨b, o, hA, hb, hcell⟩ := hq (by simp; omega)
  have x1 : (pre ++ (put ++ rest')).length - (put ++ rest').length = pre.length := by simp
  have x2 : ((pre ++ (put ++ rest')).length - rest'.length) - pre.length = put.length := by simp; omega
  have h3 : pre.length + put.length ≤ (pre ++ (put ++ rest')).length := by simp
  refine ⟨b, o, hA, e2, h1, ?_⟩
  rw [x1, x2]
  have := rd_piece (w := w) (B := B) (rest := pre ++ (put ++ rest')) (b := b) (o := o) (o' := o + pre.length) (n := put.length) (n' := put.length) (c' := c - pre.length) (k := pre.length) hb hcell rfl h3 (fun _ => rfl) (by omega) (by omega)
  simpa using this

set_option maxRecDepth 100000 in
set_option maxHeartbeats 20000000 in
theorem forms_walk (bv sv : Value) (l : List UInt8) (ops : List OpD) (w : World) (hb : Rd w w.heap.size bv l) (ho : OpsAt w w.heap.size sv ops) (hl : l.length ≤ 100000000) :
    Calls Try.prog 4 #[bv, sv] w fun e w' => e = .returned (.bool true) ∧ Below w.heap.size w w' := by
  obtain ⟨i0, hi, hz, hsz, hby⟩ := info_parts Try.infoByte
  obtain ⟨A', c', rfl, hc', hcm', hp'⟩ := id ho
  have hol : (ops.length : Int) ≤ 9223372036854775807 := by unfold maxLen at hcm'; omega
  have HO := Lib.hid (open_rd bv l w hb (by omega))
  have HB := Lib.hid hb
  obtain ⟨A, c, rfl⟩ := hb.form
  have HP := Lib.hid hp'
  have HL := Lib.hid hl
  have hll : (l.length : Int) ≤ 100000000 := by omega
  clear ho hb hp' hl
  go_enter Try.func4, Try.ntmps4
  go_wp2_with fail
  refine HO.out.mono ?_
  rintro e w1 ⟨g, rfl, hr1, hb1⟩
  go_wp2_with fail
  refine (fixed_any w1).mono ?_
  rintro e w2 ⟨rfl, hb2⟩
  have hr2 := hr1.below hb2
  have hB2 := below_chain hb1 hb1.size hb2
  have hgl : w.heap.size ≤ g := hr2.from_
  have HST := Lib.hid (And.intro hr2 hB2)
  clear hr1 hb1 hb2 hr2 hB2 HO
  go_wp2_with fail
  go_loopg [23] ops.length (fun g0 i wr => ∃ (k : Nat) (rest : List UInt8) (f : Int), k ≤ ops.length ∧ g0 = ops.length - k ∧ i = .int .i64 (k : Int) ∧ Hid ((∃ pre, l = pre ++ rest) ∧ Rdr wr w.heap.size g rest f ∧ Below w.heap.size w wr))
  case atStart => exact ⟨0, l, 0, Nat.zero_le _, rfl, rfl, Lib.hid ⟨⟨[], rfl⟩, HST.out.1, HST.out.2⟩⟩
  case round =>
    clear HST
    obtain ⟨k, rest, f, hk, rfl, rfl, HR⟩ := hrel
    by_cases hlt : k < ops.length
    · obtain ⟨b, o, rfl, hbb, hat⟩ := HP.out (by omega)
      obtain ⟨xv, q0, q1, q2, q3, q4, hxr⟩ := (hat k hlt).below hbb HR.out.2.2
      obtain ⟨A3, c3, rfl⟩ := hxr.form
      obtain ⟨x, hx⟩ : ∃ x, x = ops[k] := ⟨_, rfl⟩
      rw [← hx] at q0 q1 q2 q3 q4 hxr
      have i1 : (0 : Int) ≤ (k : Int) := by omega
      have i2 : (k : Int) < (ops.length : Int) := by omega
      obtain ⟨W, hW⟩ : ∃ W, W = wr.alloc (.cells #[.int .i64 x.kind, .int .i64 x.most, .int .u64 x.num, .slice A3 x.bytes.length c3, .bool x.yes] 27) := ⟨_, rfl⟩
      have hba : Below wr.heap.size wr W := by rw [hW]; exact (Below.refl _ _).alloc (Nat.le_refl _) _
      have hrW : Rdr W w.heap.size g rest f := HR.out.2.1.below hba
      have hbW := below_chain HR.out.2.2 HR.out.2.2.size hba
      have z0 : W.cell? ⟨wr.heap.size, 0, none⟩ = some (.int .i64 x.kind) := by rw [hW]; exact blk_cell (heap_alloc_new wr _) 0
      have hrl : rest.length ≤ l.length := by obtain ⟨pre, h⟩ := HR.out.1; rw [h]; simp
      obtain ⟨a, ha⟩ : ∃ a, a = l.length - rest.length := ⟨_, rfl⟩
      have hwr1 : IntKind.i64.wrap ((l.length : Int) - (rest.length : Int)) = (a : Int) := by rw [IntKind.wrap_i64] <;> omega
      have ja : ¬ (a : Int) < 0 := by omega
      have HW := Lib.hid hW
      have HSZ := Lib.hid hk
      have HAA := Lib.hid ha
      have HRL := Lib.hid hrl
      have HBW := Lib.hid (And.intro hbW (And.intro hrW (And.intro hba hlt)))
      have HLF := Lib.hid (rdLeft_any hrW)
      have HER := Lib.hid (rdErr_any hrW)
      obtain ⟨nr, hnr⟩ : ∃ nr, nr = rest.length := ⟨_, rfl⟩
      have HNR : Hid (rest.length = nr) := Lib.hid hnr.symm
      rw [← hnr] at hwr1 HLF HAA HRL
      clear hnr
      clear hW hx hat hxr ha hrl hba hk hbW hrW hlt
      go_wp2_with fail
      rw [← HW.out]
      refine HLF.out.mono ?_
      rintro e w5 ⟨rfl, rfl⟩
      go_wp2_with fail
      refine HER.out.mono ?_
      rintro e w5 ⟨rfl, rfl⟩
      clear q0 q1 q2 q3 q4 HLF HER hwr1
      go_upto_block 2 with fail
      go_cut [10] (fun s10 wx => ∃ (put rest' : List UInt8) (f' : Int), Hid (Own wx W.heap.size s10 put ∧ Rdr wx w.heap.size g rest' f' ∧ Below w.heap.size w wx ∧ W.heap.size ≤ wx.heap.size) ∧ Hid (((f ≠ 0 ∧ f' = f ∧ rest' = rest) ∨ (f = 0 ∧ f' ≠ 0 ∧ rest' = rest) ∨ (f = 0 ∧ f' = 0 ∧ rest = put ++ rest')) ∧ 0 < put.length))
      case first =>
        by_cases k1 : x.kind = 1
        · have j1 : (x.kind == 1) = true := by simp [k1]
          clear k1
          have HQ := Lib.hid (rN_any HBW.out.2.1)
          have hcs := rN_cases rest f
          have HNL := Lib.hid (rN_ltQ rest f)
          generalize rN rest f = Q at hcs HQ HNL
          obtain ⟨n, rest', f'⟩ := Q
          dsimp only at hcs HQ HNL
          have HCS := Lib.hid (And.intro hcs (show 0 < (be n 8).length by rw [be_length]; omega))
          clear hcs
          go_wp2_with fail
          refine HQ.out.mono ?_
          rintro e w5 ⟨rfl, hr5, hg5⟩
          have hb5 := HBW.out.1.trans ((below_of_grownBy hg5 hgl (by have := HBW.out.2.1.lt; exact this)).mono (Nat.le_refl _))
          have HS5 := Lib.hid hg5.size
          have HPU := Lib.hid (N_any (.slice none 0 0) [] n w5 (Rd.nil _ _) HNL.out (by simp))
          have HS := Lib.hid (And.intro hb5 hr5)
          clear hg5 hb5 hr5 z0 HQ
          go_wp2_with fail
          refine HPU.out.mono ?_
          rintro e w6 ⟨v6, rfl, ho6, hb6⟩
          have how : Own w6 W.heap.size v6 (be n 8) := by have h := ho6; rw [List.nil_append] at h; exact Own.more (l := be n 8) h HS5.out
          obtain ⟨P6, hP6⟩ : ∃ P6, P6 = (be n 8) := ⟨_, rfl⟩
          rw [← hP6] at how HCS
          clear hP6
          have HOW := Lib.hid (And.intro how (And.intro (HS.out.2.below hb6) (And.intro (below_chain HS.out.1 HS.out.1.size hb6) (Nat.le_trans HS5.out hb6.size))))
          obtain ⟨A6, c6, rfl⟩ := how.form
          clear ho6 how hb6 HPU
          go_wp2_with fail
          go_meet
          case rel => exact ⟨_, rest', f', HOW, HCS⟩
        have j1 : (x.kind == 1) = false := by simp [k1]
        clear k1
        by_cases k2 : x.kind = 2
        · have j2 : (x.kind == 2) = true := by simp [k2]
          clear k2
          have HQ := Lib.hid (rdB_any HBW.out.2.1)
          have hcs := rB_cases rest f
          have HNL := Lib.hid (rB_le rest f)
          generalize rB rest f = Q at hcs HQ HNL
          obtain ⟨n, rest', f'⟩ := Q
          dsimp only at hcs HQ HNL
          have HCS := Lib.hid (And.intro hcs (be4_pos n))
          clear hcs
          go_wp2_with fail
          refine HQ.out.mono ?_
          rintro e w5 ⟨v5, rfl, ho5, hr5, hg5⟩
          have hb5 := HBW.out.1.trans ((below_of_grownBy hg5 hgl (by have := HBW.out.2.1.lt; exact this)).mono (Nat.le_refl _))
          have HS5 := Lib.hid hg5.size
          have HPU := Lib.hid (B_any (.slice none 0 0) v5 [] n w5 (Rd.nil _ _) ho5.rd (by simp))
          obtain ⟨A5, c5, rfl⟩ := ho5.form
          generalize n.length = nn at *
          have HS := Lib.hid (And.intro hb5 hr5)
          clear hg5 hb5 hr5 ho5 z0 HQ
          go_wp2_with fail
          refine HPU.out.mono ?_
          rintro e w6 ⟨v6, rfl, ho6, hb6⟩
          have how : Own w6 W.heap.size v6 (encB n) := by have h := ho6; rw [List.nil_append] at h; exact h.more HS5.out
          obtain ⟨P6, hP6⟩ : ∃ P6, P6 = (encB n) := ⟨_, rfl⟩
          rw [← hP6] at how HCS
          clear hP6
          have HOW := Lib.hid (And.intro how (And.intro (HS.out.2.below hb6) (And.intro (below_chain HS.out.1 HS.out.1.size hb6) (Nat.le_trans HS5.out hb6.size))))
          obtain ⟨A6, c6, rfl⟩ := how.form
          clear ho6 how hb6 HPU
          go_wp2_with fail
          go_meet
          case rel => exact ⟨_, rest', f', HOW, HCS⟩
        have j2 : (x.kind == 2) = false := by simp [k2]
        clear k2
        by_cases k3 : x.kind = 3
        · have j3 : (x.kind == 3) = true := by simp [k3]
          clear k3
          have HQ := Lib.hid (rdT_any HBW.out.2.1)
          have hcs := rB_cases rest f
          have HNL := Lib.hid (rB_le rest f)
          generalize rB rest f = Q at hcs HQ HNL
          obtain ⟨n, rest', f'⟩ := Q
          dsimp only at hcs HQ HNL
          have HCS := Lib.hid (And.intro hcs (be4_pos n))
          clear hcs
          go_wp2_with fail
          refine HQ.out.mono ?_
          rintro e w5 ⟨rfl, hr5, hg5⟩
          have hb5 := HBW.out.1.trans ((below_of_grownBy hg5 hgl (by have := HBW.out.2.1.lt; exact this)).mono (Nat.le_refl _))
          have HS5 := Lib.hid hg5.size
          have HPU := Lib.hid (T_any (.slice none 0 0) ⟨n.toArray⟩ [] w5 (Rd.nil _ _) (by show n.toArray.size ≤ maxLen; have := HNL.out; unfold maxLen; simp; omega) (by simp))
          obtain ⟨S, hna⟩ : ∃ S, S = (⟨n.toArray⟩ : ByteArray) := ⟨_, rfl⟩
          rw [← hna] at HPU ⊢
          have HNA := Lib.hid hna
          clear hna
          have HS := Lib.hid (And.intro hb5 hr5)
          clear hg5 hb5 hr5 z0 HQ
          go_wp2_with fail
          refine HPU.out.mono ?_
          rintro e w6 ⟨v6, rfl, ho6, hb6⟩
          have how : Own w6 W.heap.size v6 (encB n) := by have h := ho6; rw [List.nil_append, HNA.out, strBytes_mk] at h; exact h.more HS5.out
          obtain ⟨P6, hP6⟩ : ∃ P6, P6 = (encB n) := ⟨_, rfl⟩
          rw [← hP6] at how HCS
          clear hP6
          have HOW := Lib.hid (And.intro how (And.intro (HS.out.2.below hb6) (And.intro (below_chain HS.out.1 HS.out.1.size hb6) (Nat.le_trans HS5.out hb6.size))))
          obtain ⟨A6, c6, rfl⟩ := how.form
          clear ho6 how hb6 HPU
          go_wp2_with fail
          go_meet
          case rel => exact ⟨_, rest', f', HOW, HCS⟩
        have j3 : (x.kind == 3) = false := by simp [k3]
        clear k3
        by_cases k4 : x.kind = 4
        · have j4 : (x.kind == 4) = true := by simp [k4]
          clear k4
          have HQ := Lib.hid (rdF_any HBW.out.2.1)
          have hcs := rF_cases rest f
          generalize rF rest f = Q at hcs HQ
          obtain ⟨n, rest', f'⟩ := Q
          dsimp only at hcs HQ
          have HCS := Lib.hid (And.intro hcs (show 0 < [fb n].length by simp))
          clear hcs
          go_wp2_with fail
          refine HQ.out.mono ?_
          rintro e w5 ⟨rfl, hr5, hg5⟩
          have hb5 := HBW.out.1.trans ((below_of_grownBy hg5 hgl (by have := HBW.out.2.1.lt; exact this)).mono (Nat.le_refl _))
          have HS5 := Lib.hid hg5.size
          have HPU := Lib.hid (F_any (.slice none 0 0) n [] w5 (Rd.nil _ _) (by simp))
          have HS := Lib.hid (And.intro hb5 hr5)
          clear hg5 hb5 hr5 z0 HQ
          go_wp2_with fail
          refine HPU.out.mono ?_
          rintro e w6 ⟨v6, rfl, ho6, hb6⟩
          have how : Own w6 W.heap.size v6 ([fb n]) := by have h := ho6; rw [List.nil_append] at h; exact h.more HS5.out
          obtain ⟨P6, hP6⟩ : ∃ P6, P6 = ([fb n]) := ⟨_, rfl⟩
          rw [← hP6] at how HCS
          clear hP6
          have HOW := Lib.hid (And.intro how (And.intro (HS.out.2.below hb6) (And.intro (below_chain HS.out.1 HS.out.1.size hb6) (Nat.le_trans HS5.out hb6.size))))
          obtain ⟨A6, c6, rfl⟩ := how.form
          clear ho6 how hb6 HPU
          go_wp2_with fail
          go_meet
          case rel => exact ⟨_, rest', f', HOW, HCS⟩
        have j4 : (x.kind == 4) = false := by simp [k4]
        clear k4
        have HNX : Hid ((∃ pre, l = pre ++ rest) ∧ Rdr W w.heap.size g rest f ∧ Below w.heap.size w W) := Lib.hid ⟨HR.out.1, HBW.out.2.1, HBW.out.1⟩
        go_wp2_with fail
        go_roundg (ops.length - (k + 1))
        case measure => have := HBW.out.2.2.2; omega
        case rel => exact ⟨k + 1, rest, f, by have := HBW.out.2.2.2; omega, rfl, by go_num, HNX⟩
      case rest =>
        obtain ⟨put, rest', f', HOW, HCS⟩ := hcut
        have ho6 := HOW.out.1
        obtain ⟨A6, c6, rfl⟩ := ho6.form
        have hle2 : rest'.length ≤ rest.length := by
          rcases HCS.out.1 with ⟨_, _, h⟩ | ⟨_, _, h⟩ | ⟨_, _, h⟩
          · rw [h]; omega
          · rw [h]; omega
          · rw [h]; simp
        have hnr : rest.length ≤ l.length := by obtain ⟨pre, h⟩ := HR.out.1; rw [h]; simp
        have HNQ := Lib.hid hnr
        have ha := HAA.out
        have hnn := HNR.out
        obtain ⟨a2, ha2⟩ : ∃ a2, a2 = l.length - rest'.length := ⟨_, rfl⟩
        have hwr2 : IntKind.i64.wrap ((l.length : Int) - (rest'.length : Int)) = (a2 : Int) := by rw [IntKind.wrap_i64] <;> omega
        have k1 : ¬ (a2 : Int) < (a : Int) := by omega
        have k2 : ¬ (l.length : Int) < (a2 : Int) := by omega
        have HAE := Lib.hid ha2
        have HL6 := Lib.hid (rdLeft_any HOW.out.2.1)
        have HE6 := Lib.hid (rdErr_any HOW.out.2.1)
        have HPF : Hid (f = 0 ∧ f' = 0 ∧ rest = put ++ rest' → ∃ pb po, A = some ⟨pb, po, none⟩ ∧ l.length ≤ c ∧ Rd w w.heap.size (.slice (some ⟨pb, po + a, none⟩) (a2 - a) (c - a)) put) := by
          refine Lib.hid fun h => ?_
          obtain ⟨pb, po, e1, e2, e3, e4⟩ := rd_put HB.out HR.out.1 h.2.2 HCS.out.2
          refine ⟨pb, po, e1, e3, ?_⟩
          rw [ha2, show a = l.length - rest.length by omega]
          exact e4
        clear ho6 ha hnn hnr hle2 ha2 z0
        go_wp2_with fail
        refine HL6.out.mono ?_
        rintro e w7 ⟨rfl, rfl⟩
        clear HL6
        go_upto_region 22 with fail
        rcases HCS.out.1 with ⟨h1, h2, h3⟩ | ⟨h1, h2, h3⟩ | ⟨h1, h2, h3⟩
        · subst h2; subst h3
          have haa : a2 = a := by have := HAE.out; have := HAA.out; have := HNR.out; omega
          have f1 : (f' != 0) = true := by simpa using h1
          have f2 : (f' == 0) = false := by simpa using h1
          have f3 : (f' != f') = false := by simp
          subst haa
          have HNX := Lib.hid (And.intro HR.out.1 (And.intro HOW.out.2.1 HOW.out.2.2.1))
          clear h1 hwr2 k1 k2 HPF
          go_wp2_with fail
          refine HE6.out.mono ?_
          rintro e w7 ⟨rfl, rfl⟩
          go_wp2_with fail
          refine HE6.out.mono ?_
          rintro e w7 ⟨rfl, rfl⟩
          go_wp2_with fail
          refine HE6.out.mono ?_
          rintro e w7 ⟨rfl, rfl⟩
          go_wp2_with fail
          go_roundg (ops.length - (k + 1))
          case measure => have := HBW.out.2.2.2; omega
          case rel => exact ⟨k + 1, rest', f', by have := HBW.out.2.2.2; omega, rfl, by go_num, HNX⟩
        · subst h1; subst h3
          have haa : a2 = a := by have := HAE.out; have := HAA.out; have := HNR.out; omega
          have f1 : (f' != 0) = true := by simpa using h2
          have f2 : (f' == 0) = false := by simpa using h2
          subst haa
          have HNX := Lib.hid (And.intro HR.out.1 (And.intro HOW.out.2.1 HOW.out.2.2.1))
          clear h2 hwr2 k1 k2 HPF
          go_wp2_with fail
          refine HE6.out.mono ?_
          rintro e w7 ⟨rfl, rfl⟩
          go_wp2_with fail
          refine HE6.out.mono ?_
          rintro e w7 ⟨rfl, rfl⟩
          go_wp2_with fail
          go_roundg (ops.length - (k + 1))
          case measure => have := HBW.out.2.2.2; omega
          case rel => exact ⟨k + 1, rest', f', by have := HBW.out.2.2.2; omega, rfl, by go_num, HNX⟩
        · obtain ⟨pb, po, hA, hlc, hpr⟩ := HPF.out ⟨h1, h2, h3⟩
          have hk3 : a < a2 := by have := HCS.out.2; have := HNQ.out; have := HAE.out; have := HAA.out; have := HNR.out; have := congrArg List.length h3; rw [List.length_append] at this; omega
          have hk4 : a2 ≤ l.length := by have := HAE.out; omega
          subst h1; subst h2
          have HNX0 := Lib.hid (And.intro (show ∃ pre, l = pre ++ rest' by obtain ⟨pre, h⟩ := HR.out.1; exact ⟨pre ++ put, by rw [h, h3, List.append_assoc]⟩) (And.intro HOW.out.2.1 HOW.out.2.2.1))
          have HSM := Lib.hid (same_yes3 (.slice A6 put.length c6) (.slice (some ⟨pb, po + a, none⟩) (a2 - a) (c - a)) put wc HOW.out.1.rd ((hpr.below HOW.out.2.2.1).more HOW.out.2.2.1.size))
          have hsl : ∀ Z : World, (Instr.slice 24 (.slice (some ⟨pb, po, none⟩) l.length c) (some (.int .i64 (a : Int))) (some (.int .i64 (a2 : Int))) none).run Try.prog Z = .ok (.slice (some ⟨pb, po + a, none⟩) (a2 - a) (c - a)) Z := run_slice_mid _ _ i0 Try.underlying24 hi hsz pb po l.length c a a2 hk3 hk4 hlc
          have hA0 := hA
          subst hA0
          clear HPF hpr hA h3 hk3 hk4 hlc hwr2 k1 k2
          go_wp2_with fail
          refine HE6.out.mono ?_
          rintro e w7 ⟨rfl, rfl⟩
          go_wp2_with fail
          refine HE6.out.mono ?_
          rintro e w7 ⟨rfl, rfl⟩
          go_wp2_with fail
          refine HSM.out.mono ?_
          rintro e w7 ⟨rfl, hb7⟩
          have HNX : Hid ((∃ pre, l = pre ++ rest') ∧ Rdr w7 w.heap.size g rest' 0 ∧ Below w.heap.size w w7) := Lib.hid ⟨HNX0.out.1, HNX0.out.2.1.below hb7, below_chain HNX0.out.2.2 HNX0.out.2.2.size hb7⟩
          clear hb7
          go_wp2_with fail
          go_roundg (ops.length - (k + 1))
          case measure => have := HBW.out.2.2.2; omega
          case rel => exact ⟨k + 1, rest', 0, by have := HBW.out.2.2.2; omega, rfl, by go_num, HNX⟩
    · have hk2 : ¬ (k : Int) < (ops.length : Int) := by omega
      have hfin := HR.out.2.2
      clear HR HP HB
      go_wp2_with fail
      refine (N_nil _).mono ?_
      rintro e w5 ⟨rfl, rfl⟩
      go_wp2_with fail
      refine (B_nil _).mono ?_
      rintro e w5 ⟨v5, rfl, ho5, hb5⟩
      have hf5 := below_chain hfin hfin.size hb5
      obtain ⟨A5, c5, rfl⟩ := ho5.form
      clear hfin ho5 hb5
      go_wp2_with fail
      refine (T_nil _).mono ?_
      rintro e w6 ⟨rfl, rfl⟩
      go_wp2_with fail
      refine (F_nil _).mono ?_
      rintro e w6 ⟨rfl, rfl⟩
      go_wp2_with fail
      refine (C_nil _ 3).mono ?_
      rintro e w6 ⟨rfl, rfl⟩
      go_wp2_with fail
      refine (Left_nil _).mono ?_
      rintro e w6 ⟨rfl, rfl⟩
      go_wp2_with fail
      refine (Err_nil _).mono ?_
      rintro e w6 ⟨rfl, rfl⟩
      go_wp2_with fail
      refine (End_nil _).mono ?_
      rintro e w6 ⟨rfl, rfl⟩
      go_wp2_with fail
      go_ret
      exact ⟨rfl, hf5⟩
end Go.Proofs.Ytpcoonnfaoakhaa
