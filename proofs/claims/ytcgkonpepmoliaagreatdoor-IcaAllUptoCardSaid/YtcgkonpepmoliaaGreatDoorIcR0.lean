
/- Orders that come in: all of them are done, or none. Orders in bytes and back: what is too long is cut, and sends as little. -/
import Derived.Test.YtcgkonpepmoliaaGreatDoorBra
import Derived.Test.YtcgkonpepmoliaaGreatDoorIcaG0
import Derived.Test.YtcgkonpepmoliaaGreatDoorIcP0
namespace Go.Proofs.YtcgkonpepmoliaaGreatDoor
set_option maxRecDepth 100000
open Go Go.RowKit
set_option linter.unusedVariables false

/-- sends out of one account, one behind the other, to the first error -/
def sendsM (a : ByteArray) : List OrdV → List Pr → Int × List Pr
  | [], R => (0, R)
  | o :: l, R => if (sendM R a o.t o.d o.x).1 = 0 then sendsM a l (sendM R a o.t o.d o.x).2 else ((sendM R a o.t o.d o.x).1, R)
def recvM (R : List Pr) (dst : ByteArray) (b : List UInt8) : Int × List Pr :=
  match getCh R dst with
  | none => (121, R)
  | some c => if c.po = sHost then
      (if (ordsR b).bad = 0 ∧ rEnd (ordsR b).rest (ordsR b).fault = 0 then
        (if (sendsM (kIca c.cn c.ve) (ordsR b).acc R).1 = 0 then (0, (sendsM (kIca c.cn c.ve) (ordsR b).acc R).2) else ((sendsM (kIca c.cn c.ve) (ordsR b).acc R).1, R))
      else (140, R))
    else (121, R)
theorem sends_next {a : ByteArray} {l : List OrdV} {j : Nat} (hj : j < l.length) {R : List Pr} : sendsM a (l.drop j) R = if (sendM R a l[j].t l[j].d l[j].x).1 = 0 then sendsM a (l.drop (j + 1)) (sendM R a l[j].t l[j].d l[j].x).2 else ((sendM R a l[j].t l[j].d l[j].x).1, R) := by
  rw [List.drop_eq_getElem_cons hj]
  rfl
theorem getCh_ok {R : List Pr} {id : ByteArray} {c : ChV} (h : getCh R id = some c) (hs : ∀ key v, getL R key = some v → v.length ≤ 2000000) : c.cn.size ≤ 65535 ∧ c.ve.size ≤ 65535 := by
  unfold getCh at h
  split at h
  · cases hg : getL R (kChn id) with
    | none => rw [hg] at h; cases h
    | some l =>
      rw [hg] at h
      replace h : readCh l = some c := h
      unfold readCh at h
      generalize rN l 0 = Q at *
      obtain ⟨a, l1, f1⟩ := Q
      dsimp only at h
      generalize rF l1 f1 = Q at *
      obtain ⟨b, l2, f2⟩ := Q
      dsimp only at h
      generalize rB l2 f2 = Q at *
      obtain ⟨p1, l3, f3⟩ := Q
      dsimp only at h
      generalize rB l3 f3 = Q at *
      obtain ⟨p2, l4, f4⟩ := Q
      dsimp only at h
      have b5 := rB_le l4 f4
      generalize rB l4 f4 = Q at *
      obtain ⟨p3, l5, f5⟩ := Q
      dsimp only at h b5
      generalize rB l5 f5 = Q at *
      obtain ⟨p4, l6, f6⟩ := Q
      dsimp only at h
      have b7 := rB_le l6 f6
      generalize rB l6 f6 = Q at *
      obtain ⟨p5, l7, f7⟩ := Q
      dsimp only at h b7
      split at h
      · injection h with h
        subst h
        exact ⟨by simpa [ByteArray.size] using b5, by simpa [ByteArray.size] using b7⟩
      · cases h
  · cases h
theorem OSt.at_small {s : OSt} (h : ∀ o ∈ s.acc, o.x.ok ∧ o.t.size ≤ 65535 ∧ o.d.size ≤ 65535) (j : Nat) : ∀ o ∈ (s.at j).acc, o.x.ok ∧ o.t.size ≤ 65535 ∧ o.d.size ≤ 65535 := by
  induction j with
  | zero => exact h
  | succ j ih =>
    intro o ho
    have e : (s.at (j + 1)).acc = (s.at j).acc ++ [(s.at j).o] := rfl
    rw [e] at ho
    rcases List.mem_append.1 ho with ho | ho
    · exact ih o ho
    · rw [List.mem_singleton.1 ho]
      have b1 := rB_le (s.at j).rest (s.at j).fault
      have b2 := rB_le (rB (s.at j).rest (s.at j).fault).2.1 (rB (s.at j).rest (s.at j).fault).2.2
      refine ⟨fromU_ok _, ?_, ?_⟩
      · show (rB (s.at j).rest (s.at j).fault).1.toArray.size ≤ _
        simpa using b1
      · show (rB (rB (s.at j).rest (s.at j).fault).2.1 (rB (s.at j).rest (s.at j).fault).2.2).1.toArray.size ≤ _
        simpa using b2
theorem ordsR_small (b : List UInt8) : ∀ o ∈ (ordsR b).acc, o.x.ok ∧ o.t.size ≤ 65535 ∧ o.d.size ≤ 65535 := by
  unfold ordsR
  exact OSt.at_small (fun o h => by cases h) _
structure ISR (W : World) (y : Lyr) (l : List Lyr) (R : List Pr) (k : Nat) (z : Lyr) (a : ByteArray) (ol : List OrdV) (w5 : World) (j : Nat) (Z : World) : Prop where
  ex : ∃ R2 jj, jj ≤ 2 * j ∧ Bra W y l R k z R2 jj Z ∧ sendsM a ol R = sendsM a (ol.drop j) R2 ∧ Kept w5 Z
theorem OrdsAt.keptX {W W' : World} {v : Value} {l : List OrdV} (h : OrdsAt W v l) (hk : Kept W W') : OrdsAt W' v l := by
  obtain ⟨A, c, rfl, hc⟩ := h
  refine ⟨A, c, rfl, fun h0 => ?_⟩
  obtain ⟨b, o, rfl, hb1, hcell⟩ := hc h0
  have hs : W.heap.size ≤ W'.heap.size := by obtain ⟨F, h1, _⟩ := hk; exact h1.size
  exact ⟨b, o, rfl, Nat.lt_of_lt_of_le hb1 hs, fun j hj i u hi hu => hk.cell (hcell j hj i u hi hu)⟩
theorem chV_eqX (o : Option ChV) : chV o = .tuple #[(o.getD ChV.none).val, .bool o.isSome] := by cases o <;> rfl
set_option maxHeartbeats 16000000 in
theorem icrecv_any {W w : World} {y : Lyr} {l : List Lyr} {R : List Pr} {k : Nat} (h : At W y l R k w) (hn : y.n + k + 20 ≤ maxLen) (src dst : ByteArray) (seq : Nat) (Ad : Option Addr) (nd cd : Nat) (b : List UInt8) (hr : Rd w w.heap.size (.slice Ad nd cd) b) (hbl : b.length ≤ 140737488355320) (ht tm : Nat) (hdst : dst.size ≤ 100000000) :
    Calls Tryz.prog 13 #[.pointer (some ⟨y.b, 0, none⟩), .agg #[.string src, .string dst, .int .u64 (seq : Int), .slice Ad nd cd, .int .u64 (ht : Int), .int .u64 (tm : Int)]] w fun e w' => e = .returned (.int .i64 (recvM R dst b).1) ∧ At W y l (recvM R dst b).2 (k + 16) w' ∧ Kept w w' := by
  have HAT := Lib.hid (fun (Z : World) (hz : At W y l R k Z) => hz.more (show k ≤ k + 16 by omega))
  have HAM := Lib.hid (fun (Z : World) (R' : List Pr) (j : Nat) (hj : j ≤ 16) (hz : At W y l R' (k + j) Z) => hz.more (show k + j ≤ k + 16 by omega))
  have HSZ := Lib.hid hn
  have HSH : Hid (∀ key v, getL R key = some v → v.length ≤ 2000000) := Lib.hid fun key v e => Nat.le_trans (h.fits e).2 (by decide)
  have hbox := heap_alloc_new w (.cells #[.string src, .string dst, .int .u64 (seq : Int), .slice Ad nd cd, .int .u64 (ht : Int), .int .u64 (tm : Int)] 45)
  have ha0 : Below w.heap.size w (w.alloc (.cells #[.string src, .string dst, .int .u64 (seq : Int), .slice Ad nd cd, .int .u64 (ht : Int), .int .u64 (tm : Int)] 45)) := (Below.refl _ _).alloc (Nat.le_refl _) _
  have A0 := h.up ha0
  have hk0 := Kept.of_belowX ha0
  have HG := Lib.hid (chget_any A0 dst hdst)
  have HR0 := Lib.hid (fun (Z : World) (hz : Below (w.alloc (.cells #[.string src, .string dst, .int .u64 (seq : Int), .slice Ad nd cd, .int .u64 (ht : Int), .int .u64 (tm : Int)] 45)).heap.size (w.alloc (.cells #[.string src, .string dst, .int .u64 (seq : Int), .slice Ad nd cd, .int .u64 (ht : Int), .int .u64 (tm : Int)] 45)) Z) => (hr.up (Nat.le_refl _) ha0).up (Nat.le_refl _) hz)
  have HOK : Hid (∀ c, getCh R dst = some c → c.cn.size ≤ 65535 ∧ c.ve.size ≤ 65535) := Lib.hid fun c e => getCh_ok e HSH.out
  have HN : Hid (getCh R dst = none → recvM R dst b = (121, R)) := Lib.hid fun e => by unfold recvM; rw [e]
  have HS0 : Hid (∀ c, getCh R dst = some c → recvM R dst b = if c.po = sHost then
      (if (ordsR b).bad = 0 ∧ rEnd (ordsR b).rest (ordsR b).fault = 0 then
        (if (sendsM (kIca c.cn c.ve) (ordsR b).acc R).1 = 0 then (0, (sendsM (kIca c.cn c.ve) (ordsR b).acc R).2) else ((sendsM (kIca c.cn c.ve) (ordsR b).acc R).1, R))
      else (140, R))
    else (121, R)) := Lib.hid fun c e => by unfold recvM; rw [e]
  generalize getCh R dst = o at *
  generalize recvM R dst b = AM at *
  have HBL := Lib.hid hbl
  have c1 := blk_cell hbox 1
  obtain ⟨yb, hyb⟩ : ∃ yb, yb = y.b := ⟨_, rfl⟩
  rw [← hyb] at HG ⊢
  have HYB := Lib.hid hyb
  have HBX := Lib.hid hbox
  have HA0 := Lib.hid A0
  have HK0 := Lib.hid hk0
  clear h hn hr hbl hdst hyb hbox A0 ha0 hk0
  rw [chV_eqX] at HG
  go_enter Tryz.func13, Tryz.ntmps13
  go_wp2_with fail
  generalize w.alloc (.cells #[.string src, .string dst, .int .u64 (seq : Int), .slice Ad nd cd, .int .u64 (ht : Int), .int .u64 (tm : Int)] 45) = w0 at *
  refine HG.out.mono ?_
  rintro e w1 ⟨rfl, hb1⟩
  have A1 := HA0.out.up hb1
  have hk1 := HK0.out.transX (Kept.of_belowX hb1)
  have hx1 := (hb1.block _ (blk_lt HBX.out)).trans HBX.out
  have HR1 := Lib.hid (HR0.out _ hb1)
  clear HG HA0 HBX HK0 hb1 c1 HR0
  cases o with
  | none =>
    have e := HN.out (by simp)
    subst e
    have hu := heap_alloc_new w1 (.cells #[.int .u64 0, .bool false, .string ⟨#[]⟩, .string ⟨#[]⟩, .string ⟨#[]⟩, .string ⟨#[]⟩, .string ⟨#[]⟩] 32)
    have hau : Below w1.heap.size w1 (w1.alloc (.cells #[.int .u64 0, .bool false, .string ⟨#[]⟩, .string ⟨#[]⟩, .string ⟨#[]⟩, .string ⟨#[]⟩, .string ⟨#[]⟩] 32)) := (Below.refl _ _).alloc (Nat.le_refl _) _
    have A2 := HAT.out _ (A1.up hau)
    have hk2 := hk1.transX (Kept.of_belowX hau)
    have HF := Lib.hid (And.intro A2 hk2)
    clear A1 A2 hk1 hk2 hu hau hx1
    unfold ChV.val
    simp only [Option.getD_none, Option.isSome_none, ChV.none]
    go_wp2_with fail
    go_ret
    exact ⟨rfl, HF.out.1, HF.out.2⟩
  | some ch =>
    have hsz := HOK.out ch (by simp)
    have hval := HS0.out ch (by simp)
    have HVAL := Lib.hid hval
    obtain ⟨st, od, po, cp, cn, cc, ve⟩ := ch
    dsimp only at hsz HVAL
    have HSC := Lib.hid hsz
    have hu := heap_alloc_new w1 (.cells #[.int .u64 (st : Int), .bool od, .string po, .string cp, .string cn, .string cc, .string ve] 32)
    have hau : Below w1.heap.size w1 (w1.alloc (.cells #[.int .u64 (st : Int), .bool od, .string po, .string cp, .string cn, .string cc, .string ve] 32)) := (Below.refl _ _).alloc (Nat.le_refl _) _
    have A2 := A1.up hau
    have hk2 := hk1.transX (Kept.of_belowX hau)
    have hx2 := (hau.block _ (blk_lt hx1)).trans hx1
    have HR2 := Lib.hid (HR1.out.up (Nat.le_refl _) hau)
    have HX2 := Lib.hid hx2
    have HU2 := Lib.hid hu
    have HK2 := Lib.hid hk2
    have HA2 := Lib.hid A2
    have u2 := blk_cell hu 2
    have p3 := blk_cell hx2 3
    unfold ChV.val
    simp only [Option.getD_some, Option.isSome_some]
    clear A1 A2 hk1 hk2 hx1 hx2 hu hau HOK HS0 HN HR1 hsz hval
    by_cases hpo : po = sHost
    rotate_left
    · have hpe : (po.toList == [104, 111, 115, 116]) = false := ne_lit hpo (by decide +kernel)
      have hf := HVAL.out
      rw [if_neg hpo] at hf
      subst hf
      have HF := Lib.hid (And.intro (HAT.out _ HA2.out) HK2.out)
      clear HVAL
      go_wp2_with fail
      go_ret
      exact ⟨rfl, HF.out.1, HF.out.2⟩
    · have hf := HVAL.out
      rw [if_pos hpo] at hf
      have HF := Lib.hid hf
      subst hpo
      have HP := Lib.hid (icparse_any (w1.alloc (.cells #[.int .u64 (st : Int), .bool od, .string sHost, .string cp, .string cn, .string cc, .string ve] 32)) (.slice Ad nd cd) b HR2.out HBL.out)
      clear hf HVAL
      unfold sHost at u2 p3 HP HU2 HA2 HK2 HX2 HR2
      unfold sHost
      go_wp2_with fail
      generalize hw2 : w1.alloc (.cells #[.int .u64 (st : Int), .bool od, .string ⟨#[104, 111, 115, 116]⟩, .string cp, .string cn, .string cc, .string ve] 32) = w2 at *
      generalize w1.heap.size = g5 at *
      refine HP.out.mono ?_
      rintro e w3 ⟨hb3, ⟨q1, q2, ⟨v3, rfl, ho3⟩⟩ | ⟨q1, rfl⟩⟩
      rotate_left
      · have hf := HF.out
        rw [if_neg q1] at hf
        subst hf
        have HFF := Lib.hid (And.intro (HAT.out _ (HA2.out.up hb3)) (HK2.out.transX (Kept.of_belowX hb3)))
        clear HF HP q1 hb3 u2 p3
        go_wp2_with fail
        go_ret
        exact ⟨rfl, HFF.out.1, HFF.out.2⟩
      · have hf := HF.out
        rw [if_pos ⟨q1, q2⟩] at hf
        have HF2 := Lib.hid hf
        have HLE := Lib.hid (ordsR_len b)
        have HFI := Lib.hid (ordsR_small b)
        generalize (ordsR b).acc = ol at *
        have HO3 := Lib.hid ho3
        obtain ⟨A3, c3, rfl⟩ := ho3.form
        obtain ⟨no, hno⟩ : ∃ n, n = ol.length := ⟨_, rfl⟩
        rw [← hno] at HO3 ⊢
        have HNO := Lib.hid hno
        have A4 := HA2.out.up hb3
        have hk4 := HK2.out.transX (Kept.of_belowX hb3)
        have hu4 := (hb3.block _ (blk_lt HU2.out)).trans HU2.out
        have v4 := blk_cell hu4 4
        have v6 := blk_cell hu4 6
        have HAD := Lib.hid (fun Z : World => icaaddr_any cn ve Z (by have := HSC.out.1; omega) (by have := HSC.out.2; omega))
        have hka : (kIca cn ve).size ≤ 100000000 := by
          unfold kIca
          simp only [ByteArray.size_append]
          rw [show icaP.size = 4 from rfl, show dotB.size = 1 from rfl]
          have := HSC.out.1; have := HSC.out.2; omega
        generalize kIca cn ve = ka at *
        have HKA := Lib.hid hka
        have HBR := Lib.hid A4.branch
        rw [← HYB.out] at HBR
        have HK4 := Lib.hid hk4
        clear HF hf HP q1 q2 ho3 hno hb3 u2 p3 hu4 A4 hk4 HA2 HK2 HX2 HR2 HU2 hka
        go_wp2_with fail
        refine (HAD.out _).mono ?_
        rintro e w4 ⟨rfl, rfl⟩
        clear v4 v6 HAD
        go_wp2_with fail
        refine HBR.out.mono ?_
        rintro e w5 ⟨z, rfl, -, -, B5, hb5⟩
        have hk5 := HK4.out.transX (Kept.of_belowX hb5)
        have HOO := Lib.hid (fun (Z : World) (hz : Kept w5 Z) => (HO3.out.ords.up hb5).keptX hz)
        have HK5 := Lib.hid hk5
        have HB5 : Hid (ISR W y l R k z ka ol w5 0 w5) := Lib.hid ⟨R, 0, by omega, B5, by simp, Kept.refl _⟩
        obtain ⟨zb, hzb⟩ : ∃ zb, zb = z.b := ⟨_, rfl⟩
        rw [← hzb]
        have HZB := Lib.hid hzb
        clear hzb HBR HK4 B5 hb5 hk5 HO3
        go_wp2_with fail
        go_loopw [46] (fun i Z => ∃ j : Nat, j ≤ no ∧ i = .int .i64 (j : Int) ∧ ISR W y l R k z ka ol w5 j Z)
          (fun i _ => no - (intOf i).toNat)
        case atStart => exact ⟨0, by omega, rfl, HB5.out⟩
        case round =>
          clear HB5
          obtain ⟨j, hj, rfl, HX0⟩ := hrel
          obtain ⟨R2, jj, hjj, BR, hgv, hkw⟩ := HX0.ex
          clear HX0
          have hn8 : no ≤ 8 := by have := HNO.out; have := HLE.out; omega
          have HBRX := Lib.hid BR
          have HKW := Lib.hid hkw
          by_cases hlt : j < no
          · have hjl : j < ol.length := by have := HNO.out; omega
            have hnx := sends_next (a := ka) (R := R2) hjl
            have hfi := HFI.out _ (List.getElem_mem hjl)
            obtain ⟨A', c', e', hcell⟩ := HOO.out _ hkw
            obtain ⟨g, o, hA', -, hcl⟩ := hcell (by omega)
            injection e' with s1 s2 s3
            subst s1 s3
            subst hA'
            clear s2
            have hck := hcl j hjl
            generalize ol[j] = op at *
            obtain ⟨ot, od2, ox⟩ := op
            obtain ⟨f1, f2, f3⟩ := hfi
            dsimp only at f1 f2 f3 hnx
            have i1 : (0 : Int) ≤ (j : Int) := by omega
            have i2 : (j : Int) < (no : Int) := by omega
            have e0 : wr.cell? ⟨g, o + j * 6, none⟩ = some (.string ot) := hck 0 _ (by omega) rfl
            have e1 : wr.cell? ⟨g, o + j * 6 + 1, none⟩ = some (.string od2) := hck 1 _ (by omega) rfl
            have e2 : wr.cell? ⟨g, o + j * 6 + 2, none⟩ = some (.int .u64 (ox.a : Int)) := hck 2 _ (by omega) rfl
            have e3 : wr.cell? ⟨g, o + j * 6 + 3, none⟩ = some (.int .u64 (ox.b : Int)) := hck 3 _ (by omega) rfl
            have e4 : wr.cell? ⟨g, o + j * 6 + 4, none⟩ = some (.int .u64 (ox.c : Int)) := hck 4 _ (by omega) rfl
            have e5 : wr.cell? ⟨g, o + j * 6 + 5, none⟩ = some (.int .u64 (ox.d : Int)) := hck 5 _ (by omega) rfl
            have HNX := Lib.hid (hgv.trans hnx)
            have hq := heap_alloc_new wr (.cells #[.string ot, .string od2, .int .u64 (ox.a : Int), .int .u64 (ox.b : Int), .int .u64 (ox.c : Int), .int .u64 (ox.d : Int)] 37)
            have ha : Below wr.heap.size wr (wr.alloc (.cells #[.string ot, .string od2, .int .u64 (ox.a : Int), .int .u64 (ox.b : Int), .int .u64 (ox.c : Int), .int .u64 (ox.d : Int)] 37)) := (Below.refl _ _).alloc (Nat.le_refl _) _
            have q0 := blk_cell hq 0
            have q1 := blk_cell hq 1
            have q2 := blk_cell hq 2
            have q3 := blk_cell hq 3
            have q4 := blk_cell hq 4
            have q5 := blk_cell hq 5
            have f2' : ot.size ≤ 100000000 := by omega
            have f3' : od2.size ≤ 100000000 := by omega
            have HS : Hid (Calls Tryz.prog 10 #[.pointer (some ⟨zb, 0, none⟩), .string ka, .string ot, .string od2, .agg #[.int .u64 (ox.a : Int), .int .u64 (ox.b : Int), .int .u64 (ox.c : Int), .int .u64 (ox.d : Int)]] (wr.alloc (.cells #[.string ot, .string od2, .int .u64 (ox.a : Int), .int .u64 (ox.b : Int), .int .u64 (ox.c : Int), .int .u64 (ox.d : Int)] 37)) fun e w' => e = .returned (.int .i64 (sendM R2 ka ot od2 ox).1) ∧ Bra W y l R k z (sendM R2 ka ot od2 ox).2 (jj + 2) w' ∧ Kept (wr.alloc (.cells #[.string ot, .string od2, .int .u64 (ox.a : Int), .int .u64 (ox.b : Int), .int .u64 (ox.c : Int), .int .u64 (ox.d : Int)] 37)) w') := Lib.hid (by
              rw [HZB.out]
              exact (HBRX.out.up ha).send (by unfold maxLen; omega) ka ot od2 ox f1 HKA.out f2' f3')
            have hka2 := HKW.out.transX (Kept.of_belowX ha)
            have HKA2 := Lib.hid hka2
            generalize sendM R2 ka ot od2 ox = SM at *
            obtain ⟨se, SR⟩ := SM
            dsimp only at HS HNX
            clear BR hgv hkw hnx hcell hcl hck hq ha hka2 f1 f2 f3 f2' f3'
            go_wp2_with fail
            refine HS.out.mono ?_
            rintro e w7 ⟨rfl, B7, hk7⟩
            have hkk := HKA2.out.transX hk7
            by_cases hse : se = 0
            · subst hse
              have hnx := HNX.out
              rw [if_pos (by simp)] at hnx
              have HFS : Hid (ISR W y l R k z ka ol w5 (j + 1) w7) := Lib.hid ⟨_, jj + 2, by omega, B7, hnx, hkk⟩
              clear hnx HNX B7 hk7 HS q0 q1 q2 q3 q4 q5 e0 e1 e2 e3 e4 e5
              go_wp2_with fail
              refine ⟨⟨j + 1, by omega, ?_, HFS.out⟩, ?_⟩
              · simp
              · simp [intOf]; omega
            · have hnx := HNX.out
              rw [if_neg hse] at hnx
              have hf := HF2.out
              rw [hnx, if_neg hse] at hf
              subst hf
              have hne : (se != 0) = true := by simpa using hse
              have HFF := Lib.hid (And.intro (HAT.out _ B7.back) (HK5.out.transX hkk))
              clear hnx HNX HF2 B7 hk7 HS hkk q0 q1 q2 q3 q4 q5 e0 e1 e2 e3 e4 e5
              go_wp2_with fail
              go_ret
              exact ⟨rfl, HFF.out.1, HFF.out.2⟩
          · have i2 : ¬ (j : Int) < (no : Int) := by omega
            obtain rfl : j = no := by omega
            rw [List.drop_eq_nil_of_le (by have := HNO.out; omega)] at hgv
            have hgv' : sendsM ka ol R = (0, R2) := hgv
            have hf := HF2.out
            rw [hgv', if_pos rfl] at hf
            dsimp only at hf
            subst hf
            have HW := Lib.hid (BR.write (by have := HSZ.out; unfold maxLen at *; omega))
            rw [← HZB.out] at HW
            have HKF := Lib.hid (HK5.out.transX hkw)
            clear hgv hgv' BR hkw HF2
            go_wp2_with fail
            refine HW.out.mono ?_
            rintro e w7 ⟨rfl, A7, hk7⟩
            have A8 := HAM.out _ _ jj (by omega) A7
            have hkf := HKF.out.transX hk7
            go_wp2_with fail
            go_ret
            exact ⟨rfl, A8, hkf⟩
end Go.Proofs.YtcgkonpepmoliaaGreatDoor
namespace Go.Proofs.YtcgkonpepmoliaaGreatDoor
set_option maxRecDepth 100000
open Go Go.RowKit
set_option linter.unusedVariables false

def cutS (s : ByteArray) : ByteArray := ⟨((strBytes s).take 65535).toArray⟩
def cutO (o : OrdV) : OrdV := ⟨cutS o.t, cutS o.d, o.x⟩
theorem cutS_same {s : ByteArray} (h : s.size ≤ 65535) : cutS s = s := by
  unfold cutS
  rw [List.take_of_length_le (by rw [strBytes_length]; exact h)]
  unfold strBytes
  simp
theorem cutS_long {s : ByteArray} (h : ¬ s.size ≤ 65535) : (cutS s).size = 65535 := by
  show ((strBytes s).take 65535).toArray.size = 65535
  have := strBytes_length s
  simp
  omega
theorem ident_cut (s : ByteArray) : (identB s = true ∧ cutS s = s) ∨ (identB s = false ∧ identB (cutS s) = false) := by
  by_cases h : s.size ≤ 65535
  · rw [cutS_same h]
    cases identB s
    · exact Or.inr ⟨rfl, rfl⟩
    · exact Or.inl ⟨rfl, rfl⟩
  · refine Or.inr ⟨?_, ?_⟩
    · cases e : identB s with
      | false => rfl
      | true => have := (identL_len2 e).2; exact absurd (show s.size ≤ 32 by simpa using this) (by omega)
    · cases e : identB (cutS s) with
      | false => rfl
      | true =>
        have := (identL_len2 e).2
        have h2 : (cutS s).size ≤ 32 := by simpa using this
        rw [cutS_long h] at h2
        omega
theorem denom_lenI {d : ByteArray} (h : denomB d = true) : d.size ≤ 160 := by
  unfold denomB denomL at h
  simp only [Bool.and_eq_true, decide_eq_true_eq] at h
  simpa using h.1
theorem denom_cut (s : ByteArray) : (denomB s = true ∧ cutS s = s) ∨ (denomB s = false ∧ denomB (cutS s) = false) := by
  by_cases h : s.size ≤ 65535
  · rw [cutS_same h]
    cases denomB s
    · exact Or.inr ⟨rfl, rfl⟩
    · exact Or.inl ⟨rfl, rfl⟩
  · refine Or.inr ⟨?_, ?_⟩
    · cases e : denomB s with
      | false => rfl
      | true => have := denom_lenI e; omega
    · cases e : denomB (cutS s) with
      | false => rfl
      | true => have h2 := denom_lenI e; rw [cutS_long h] at h2; omega
theorem send_cut (R : List Pr) (a t d : ByteArray) (x : U4) : sendM R a (cutS t) (cutS d) x = sendM R a t d x := by
  rcases denom_cut d with ⟨hd, ed⟩ | ⟨hd, hd2⟩
  · rw [ed]
    rcases ident_cut t with ⟨ht, et⟩ | ⟨ht, ht2⟩
    · rw [et]
    · unfold sendM
      rw [ht, ht2]
      rfl
  · have h1 : rightM a (cutS d) x = rightM a d x := by unfold rightM; rw [hd, hd2]
    have h2 : rightM a d x ≠ 0 := by
      unfold rightM
      rw [hd]
      split <;> simp
    unfold sendM
    rw [h1, if_neg h2, if_neg h2]
theorem sends_cut (a : ByteArray) : ∀ (l : List OrdV) (R : List Pr), sendsM a (l.map cutO) R = sendsM a l R
  | [], R => rfl
  | o :: l, R => by
    show (if (sendM R a (cutS o.t) (cutS o.d) o.x).1 = 0 then sendsM a (l.map cutO) (sendM R a (cutS o.t) (cutS o.d) o.x).2 else ((sendM R a (cutS o.t) (cutS o.d) o.x).1, R)) = _
    rw [send_cut, sends_cut a l]
    rfl
theorem next_enc (acc : List OrdV) (o : OrdV) (ho : o.x.ok) (rest : List UInt8) : (OSt.mk acc (orB o ++ rest) 0 0).next = OSt.mk (acc ++ [cutO o]) rest 0 0 := by
  have e1 : rB (orB o ++ rest) 0 = ((strBytes o.t).take 65535, encB (strBytes o.d) ++ (encB (be o.x.nat 32) ++ rest), 0) := by
    unfold orB
    rw [List.append_assoc, List.append_assoc, rB_enc]
  have e2 : rB (encB (strBytes o.d) ++ (encB (be o.x.nat 32) ++ rest)) 0 = ((strBytes o.d).take 65535, encB (be o.x.nat 32) ++ rest, 0) := rB_enc _ _
  have e3 : rB (encB (be o.x.nat 32) ++ rest) 0 = (be o.x.nat 32, rest, 0) := by
    rw [rB_enc, List.take_of_length_le (by simp [be_length])]
  unfold OSt.next OSt.o OSt.third
  simp only [e1, e2, e3, fromU_be ho]
  rfl
theorem at_enc (l : List OrdV) (hx : ∀ o ∈ l, o.x.ok) : ∀ j, j ≤ l.length → (OSt.mk [] (l.flatMap orB) 0 0).at j = OSt.mk ((l.take j).map cutO) ((l.drop j).flatMap orB) 0 0
  | 0, _ => by simp [OSt.at]
  | j + 1, h => by
    have hj : j < l.length := by omega
    show ((OSt.mk [] (l.flatMap orB) 0 0).at j).next = _
    rw [at_enc l hx j (by omega), List.drop_eq_getElem_cons hj, List.flatMap_cons, next_enc _ _ (hx _ (List.getElem_mem hj)), ← List.take_append_getElem hj, List.map_append]
    rfl
theorem ordsR_some (l : List OrdV) (hx : ∀ o ∈ l, o.x.ok) (h8 : l.length ≤ 8) : ordsR (ordsB l l.length) = OSt.mk (l.map cutO) [] 0 0 := by
  have e : rC 8 (ordsB l l.length) 0 = ((l.length : Int), l.flatMap orB, 0) := by
    have h1 : (ordsB l l.length).take 8 = be l.length 8 := by
      unfold ordsB
      rw [List.take_append_of_le_length (by simp [be_length]), List.take_of_length_le (by simp [be_length])]
    have h2 : (ordsB l l.length).drop 8 = l.flatMap orB := by
      unfold ordsB
      rw [List.drop_append_of_le_length (by simp [be_length]), List.drop_eq_nil_of_le (by simp [be_length]), List.take_of_length_le (Nat.le_refl _)]
      rfl
    have h3 : ¬ (ordsB l l.length).length < 8 := by
      unfold ordsB
      simp [be_length]
    have h4 : beVal (be l.length 8) = l.length := by rw [be_lt, Nat.mod_eq_of_lt (by omega)]
    unfold rC
    rw [if_neg (by simp), if_neg h3, h1, h2, h4, if_neg (by omega)]
  unfold ordsR
  rw [e]
  show (OSt.mk [] (l.flatMap orB) 0 0).at (Int.toNat (l.length : Int)) = _
  rw [Int.toNat_natCast, at_enc l hx _ (Nat.le_refl _)]
  simp
theorem ordsR_many (l : List OrdV) (h8 : ¬ l.length ≤ 8) (hm : l.length ≤ 1048576) : rEnd (ordsR (ordsB l l.length)).rest (ordsR (ordsB l l.length)).fault ≠ 0 := by
  have e : (rC 8 (ordsB l l.length) 0).1 = 0 ∧ (rC 8 (ordsB l l.length) 0).2.2 = 22 := by
    have h1 : (ordsB l l.length).take 8 = be l.length 8 := by
      unfold ordsB
      rw [List.take_append_of_le_length (by simp [be_length]), List.take_of_length_le (by simp [be_length])]
    have h3 : ¬ (ordsB l l.length).length < 8 := by
      unfold ordsB
      simp [be_length]
    have h4 : beVal (be l.length 8) = l.length := by rw [be_lt, Nat.mod_eq_of_lt (by omega)]
    unfold rC
    rw [if_neg (by simp), if_neg h3, h1, h4, if_pos (by omega)]
    exact ⟨rfl, rfl⟩
  unfold ordsR
  rw [e.1]
  show rEnd (rC 8 (ordsB l l.length) 0).2.1 (rC 8 (ordsB l l.length) 0).2.2 ≠ 0
  rw [e.2]
  unfold rEnd
  simp
/-- the host's channel that the law lays -/
def icaC (owner : ByteArray) : ChV := ⟨3, true, sHost, sControl, sConn0, ⟨#[99, 104, 97, 110, 45, 52]⟩, owner⟩
theorem rF_encI (yes : Bool) (rest : List UInt8) : rF ([fb yes] ++ rest) 0 = (yes, rest, 0) := by
  cases yes <;> rfl
theorem encS_smallI (a : ByteArray) : (encS a).length ≤ a.size + 4 := by
  unfold encS encB
  simp only [List.length_append, be_length, List.length_take, strBytes_length]
  omega
theorem icaC_len (owner : ByteArray) (h : owner.size ≤ 60000) : (chB (icaC owner)).length ≤ 65535 := by
  have h1 := encS_smallI sHost
  have h2 := encS_smallI sControl
  have h3 := encS_smallI sConn0
  have h4 := encS_smallI (⟨#[99, 104, 97, 110, 45, 52]⟩ : ByteArray)
  have h5 := encS_smallI owner
  rw [show sHost.size = 4 from rfl] at h1
  rw [show sControl.size = 7 from rfl] at h2
  rw [show sConn0.size = 6 from rfl] at h3
  rw [show (⟨#[99, 104, 97, 110, 45, 52]⟩ : ByteArray).size = 6 from rfl] at h4
  unfold chB icaC
  dsimp only
  simp only [List.length_append, be_length, List.length_cons, List.length_nil]
  omega
theorem rB_encS (s : ByteArray) (h : s.size ≤ 65535) (rest : List UInt8) : rB (encS s ++ rest) 0 = (strBytes s, rest, 0) := by
  unfold encS
  rw [rB_enc, List.take_of_length_le (by rw [strBytes_length]; exact h)]
theorem str_backI (s : ByteArray) : (⟨(strBytes s).toArray⟩ : ByteArray) = s := by
  unfold strBytes
  simp
theorem readCh_icaC (owner : ByteArray) (h : owner.size ≤ 60000) : readCh (chB (icaC owner)) = some (icaC owner) := by
  have e7 := rB_encS owner (by omega) []
  rw [List.append_nil] at e7
  unfold readCh chB icaC
  dsimp only
  simp only [List.append_assoc]
  rw [rN_enc 3 _ (by decide)]
  dsimp only
  rw [rF_encI]
  dsimp only
  rw [rB_encS sHost (by decide +kernel)]
  dsimp only
  rw [rB_encS sControl (by decide +kernel)]
  dsimp only
  rw [rB_encS sConn0 (by decide +kernel)]
  dsimp only
  rw [rB_encS _ (by decide +kernel)]
  dsimp only
  rw [e7]
  dsimp only
  rw [str_backI, str_backI, str_backI, str_backI, str_backI]
  rfl
theorem getCh_icaC (R : List Pr) (owner : ByteArray) (h : owner.size ≤ 60000) : getCh (setL (kChn sChan0) (chB (icaC owner)) R) sChan0 = some (icaC owner) := by
  have hp : pairB (kChn sChan0, chB (icaC owner)) = true := by
    unfold pairB
    simp only [Bool.and_eq_true, decide_eq_true_eq]
    exact ⟨by decide +kernel, icaC_len owner h⟩
  unfold getCh setL
  rw [if_pos (by decide +kernel), if_pos hp, getL_putL, if_pos rfl]
  exact readCh_icaC owner h
/-- what the host answers -/
theorem recv_ica (R : List Pr) (owner : ByteArray) (h : owner.size ≤ 60000) (l : List OrdV) (hx : ∀ o ∈ l, o.x.ok) (hm : l.length ≤ 1048576) :
    recvM (setL (kChn sChan0) (chB (icaC owner)) R) sChan0 (ordsB l l.length) = if l.length ≤ 8 then
      (if (sendsM (kIca sConn0 owner) l (setL (kChn sChan0) (chB (icaC owner)) R)).1 = 0 then (0, (sendsM (kIca sConn0 owner) l (setL (kChn sChan0) (chB (icaC owner)) R)).2)
        else ((sendsM (kIca sConn0 owner) l (setL (kChn sChan0) (chB (icaC owner)) R)).1, setL (kChn sChan0) (chB (icaC owner)) R))
      else (140, setL (kChn sChan0) (chB (icaC owner)) R) := by
  unfold recvM
  rw [getCh_icaC R owner h]
  dsimp only
  rw [if_pos (show (icaC owner).po = sHost from rfl)]
  by_cases h8 : l.length ≤ 8
  · rw [if_pos h8, ordsR_some l hx h8, if_pos ⟨rfl, rfl⟩]
    dsimp only
    rw [sends_cut]
    rfl
  · rw [if_neg h8, if_neg (fun e => ordsR_many l h8 hm e.2)]
end Go.Proofs.YtcgkonpepmoliaaGreatDoor
