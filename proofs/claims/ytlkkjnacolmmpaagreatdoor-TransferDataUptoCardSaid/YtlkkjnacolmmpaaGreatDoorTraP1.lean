
/- Transfers, as mathematics: data and limits in bytes, and what is refunded. Refunds: what they change. The walk of a packet's data being parsed. Data and limits of transfers are equal to themselves. The walks of small things of transfers: escrow, keys, hops, bytes of data. Transfers: an amount of nothing isn't sent; the law's fixed answers. The walk of a refund. The walk of a limit being read. The walk of a limit being kept. -/
import Derived.Test.YtlkkjnacolmmpaaGreatDoorEncB0
import Derived.Test.YtlkkjnacolmmpaaGreatDoorBankM0
import Derived.Test.YtlkkjnacolmmpaaGreatDoorNameE0
import Derived.Test.YtlkkjnacolmmpaaGreatDoorAuthA1
import Derived.Test.YtlkkjnacolmmpaaGreatDoorLimbN0
import Derived.Test.YtlkkjnacolmmpaaGreatDoorBankF0
import Derived.Test.YtlkkjnacolmmpaaGreatDoorMerkH0
import Derived.Test.YtlkkjnacolmmpaaGreatDoorSto1
namespace Go.Proofs.YtlkkjnacolmmpaaGreatDoor
set_option maxRecDepth 100000
open Go Go.RowKit
set_option linter.unusedVariables false

def encT (s : ByteArray) : List UInt8 := encB (strBytes s)
/-- data of a packet -/
structure DataV where
  d : ByteArray
  f : ByteArray
  t : ByteArray
  x : U4
def DataV.none : DataV := ⟨⟨#[]⟩, ⟨#[]⟩, ⟨#[]⟩, U4.zero⟩
def DataV.ok (v : DataV) : Prop := v.x.ok ∧ v.d.size ≤ 65535 ∧ v.f.size ≤ 65535 ∧ v.t.size ≤ 65535
def dataB (v : DataV) : List UInt8 := encT v.d ++ encT v.f ++ encT v.t ++ encB (be v.x.nat 32)
def readD (l : List UInt8) : Option DataV :=
  match rB l 0 with
  | (d, l1, f1) => match rB l1 f1 with
    | (f, l2, f2) => match rB l2 f2 with
      | (t, l3, f3) => match rB l3 f3 with
        | (b, l4, f4) => if rEnd l4 f4 = 0 ∧ (fromU b).2 = 0 ∧ rightM ⟨f.toArray⟩ ⟨d.toArray⟩ (fromU b).1 = 0 ∧ identB ⟨t.toArray⟩ = true then some ⟨⟨d.toArray⟩, ⟨f.toArray⟩, ⟨t.toArray⟩, (fromU b).1⟩ else none
def escP : ByteArray := ⟨#[101, 115, 99, 114, 111, 119, 46]⟩
def kEsc (a : ByteArray) : ByteArray := escP ++ a
def limP : ByteArray := ⟨#[108, 105, 109, 105, 116, 47]⟩
def kLim (a d : ByteArray) : ByteArray := ((limP ++ a) ++ slB) ++ d
/-- a limit -/
structure LimV where
  q : U4
  w : Nat
  s : Nat
  u : U4
def LimV.none : LimV := ⟨U4.zero, 0, 0, U4.zero⟩
def LimV.ok (v : LimV) : Prop := v.q.ok ∧ v.u.ok ∧ v.w < 18446744073709551616 ∧ v.s < 18446744073709551616
def limB (v : LimV) : List UInt8 := encB (be v.q.nat 32) ++ be v.w 8 ++ be v.s 8 ++ encB (be v.u.nat 32)
def readLim (l : List UInt8) : Option LimV :=
  match rB l 0 with
  | (b, l1, f1) => match rN l1 f1 with
    | (w, l2, f2) => match rN l2 f2 with
      | (s, l3, f3) => match rB l3 f3 with
        | (c, l4, f4) => if rEnd l4 f4 = 0 ∧ (fromU b).2 = 0 ∧ (fromU c).2 = 0 then some ⟨(fromU b).1, w, s, (fromU c).1⟩ else none
def getLim (R : List Pr) (a d : ByteArray) : Option LimV := (getL R (kLim a d)).bind readLim
def setLim (R : List Pr) (a d : ByteArray) (v : LimV) : List Pr := if keyB (kLim a d) = true then putL (kLim a d, some (limB v)) R else R
/-- what stands behind the hop, if it is that channel's -/
def thruB (d a : ByteArray) : Bool := match hopL d.data.toList with
  | some (h, _) => decide (h = a.data.toList)
  | none => false
/-- what a refund makes of a store -/
def refundM (R : List Pr) (src : ByteArray) (l : List UInt8) : Int × List Pr :=
  match readD l with
  | none => (140, R)
  | some v => if thruB v.d src = true then mintM R v.f v.d v.x else sendM R (kEsc src) v.f v.d v.x

theorem encT_len (s : ByteArray) : (encT s).length ≤ s.size + 4 := by
  unfold encT encB
  have := strBytes_length s
  simp [be_length]
  omega
theorem encB32 (n : Nat) : encB (be n 32) = be 32 4 ++ be n 32 := by
  unfold encB
  rw [List.take_of_length_le (by simp [be_length])]
  simp [be_length]
/-- data that are read are in one form -/
theorem readD_form {l : List UInt8} {v : DataV} (h : readD l = some v) : dataB v = l ∧ v.ok := by
  unfold readD at h
  have a1 := @rB_ok l 0
  have b1 := rB_le l 0
  generalize rB l 0 = P at *
  obtain ⟨d, l1, f1⟩ := P
  dsimp only at h a1 b1
  have a2 := @rB_ok l1 f1
  have b2 := rB_le l1 f1
  generalize rB l1 f1 = P at *
  obtain ⟨f, l2, f2⟩ := P
  dsimp only at h a2 b2
  have a3 := @rB_ok l2 f2
  have b3 := rB_le l2 f2
  generalize rB l2 f2 = P at *
  obtain ⟨t, l3, f3⟩ := P
  dsimp only at h a3 b3
  have a4 := @rB_ok l3 f3
  have b4 := rB_le l3 f3
  generalize rB l3 f3 = P at *
  obtain ⟨b, l4, f4⟩ := P
  dsimp only at h a4 b4
  split at h
  · next hh =>
    obtain ⟨h1, h2, h3, h4⟩ := hh
    obtain ⟨e5, e6⟩ := rEnd_zero h1
    obtain ⟨e4, x4⟩ := a4 e5
    obtain ⟨e3, x3⟩ := a3 e4
    obtain ⟨e2, x2⟩ := a2 e3
    obtain ⟨e1, x1⟩ := a1 e2
    have hv := Option.some.inj h
    subst hv
    rcases fromU_cases b with ⟨-, hb⟩ | hb
    · refine ⟨?_, fromU_ok b, ?_, ?_, ?_⟩
      · unfold dataB encT
        dsimp only
        rw [hb, x1, x2, x3, x4, e6]
        simp [strBytes_mk]
      · exact b1
      · exact b2
      · exact b3
    · rw [hb] at h2; cases h2
  · cases h
theorem str_back (s : ByteArray) (h : s.size ≤ 65535) : (⟨((strBytes s).take 65535).toArray⟩ : ByteArray) = s := by
  rw [List.take_of_length_le (by rw [strBytes_length]; exact h)]
  unfold strBytes
  simp
theorem readD_dataB (v : DataV) (h : v.ok) (h1 : rightM v.f v.d v.x = 0) (h2 : identB v.t = true) : readD (dataB v) = some v := by
  obtain ⟨o1, o2, o3, o4⟩ := h
  obtain ⟨d, f, t, x⟩ := v
  dsimp only at *
  unfold readD dataB encT
  dsimp only
  rw [List.append_assoc, List.append_assoc, rB_enc]
  dsimp only
  rw [rB_enc]
  dsimp only
  rw [rB_enc]
  dsimp only
  have e : rB (encB (be x.nat 32)) 0 = (be x.nat 32, [], 0) := by
    have := rB_enc (be x.nat 32) []
    rw [List.append_nil, List.take_of_length_le (by simp [be_length])] at this
    exact this
  rw [e, str_back d o2, str_back f o3, str_back t o4]
  dsimp only
  rw [fromU_be o1, if_pos ⟨rfl, rfl, h1, h2⟩]
end Go.Proofs.YtlkkjnacolmmpaaGreatDoor
namespace Go.Proofs.YtlkkjnacolmmpaaGreatDoor
set_option maxRecDepth 100000
open Go Go.RowKit
set_option linter.unusedVariables false

section
variable {R : List Pr} {s : ByteArray} {l : List UInt8}
theorem refund_no (h : (refundM R s l).1 ≠ 0) : (refundM R s l).2 = R := by
  unfold refundM at h ⊢
  split
  · rfl
  · next v hv =>
    rw [hv] at h
    dsimp only at h
    split
    · next h1 => rw [if_pos h1] at h; exact change_no (by decide) h
    · next h1 => rw [if_neg h1] at h; exact send_no h
theorem refund_none (h : readD l = none) : refundM R s l = (140, R) := by unfold refundM; rw [h]
theorem refund_yes (h : (refundM R s l).1 = 0) : ∃ v, readD l = some v ∧
    (v.f ≠ kEsc s → (addU (balM R v.f v.d) v.x).2 = true ∧ balM (refundM R s l).2 v.f v.d = (addU (balM R v.f v.d) v.x).1) ∧
    (thruB v.d s = true → eqB (supM (refundM R s l).2 v.d) (supM R v.d) = false) ∧ (thruB v.d s = false → supM (refundM R s l).2 v.d = supM R v.d) := by
  unfold refundM at h ⊢
  cases hv : readD l with
  | none => rw [hv] at h; cases h
  | some v =>
    rw [hv] at h
    dsimp only at h ⊢
    refine ⟨v, rfl, ?_⟩
    cases ht : thruB v.d s with
    | true =>
      rw [ht] at h
      rw [if_pos rfl] at h ⊢
      unfold mintM at h ⊢
      obtain ⟨h1, h2, h3, h4, h5, h6⟩ := change_yes h (by decide)
      rw [h6]
      refine ⟨fun _ => ⟨h5, ?_⟩, fun _ => ?_, fun e => by cases e⟩
      · rw [balM_keep_bal (addU_okm _ _) h1 h2, if_pos ⟨rfl, rfl⟩]
      · rw [supM_keep_bal (addU_okm _ _), supM_keep_sup (addU_okm _ _) h2, if_pos rfl]
        have q1 := (addU_yes h4).1
        cases e : eqB (addU (supM R v.d) v.x).1 (supM R v.d) with
        | false => rfl
        | true =>
          rw [eqB_iff.1 e] at q1
          have hx : v.x.nat = 0 := by omega
          have : v.x = U4.zero := by
            simp [U4.nat] at hx
            obtain ⟨⟨⟨p1, p2⟩, p3⟩, p4⟩ := hx
            generalize v.x = y at *
            obtain ⟨a, b, c, d⟩ := y
            dsimp only at p1 p2 p3 p4
            obtain rfl : a = 0 := p1
            obtain rfl : b = 0 := by omega
            obtain rfl : c = 0 := by omega
            obtain rfl : d = 0 := by omega
            rfl
          rw [this] at h3
          cases h3
    | false =>
      rw [ht] at h
      rw [if_neg (by simp)] at h ⊢
      by_cases e : kEsc s = v.f
      · refine ⟨fun k => absurd e.symm k, fun e => by (cases e), fun _ => ?_⟩
        rw [e, send_self]
      · obtain ⟨h1, h2, h3, h4, h5, h6⟩ := send_yes h e
        rw [h6]
        refine ⟨fun _ => ⟨h5, ?_⟩, fun e => by (cases e), fun _ => ?_⟩
        · rw [balM_keep_bal (addU_okm _ _) h2 h3, if_pos ⟨rfl, rfl⟩]
        · rw [supM_keep_bal (addU_okm _ _), supM_keep_bal (subU_okm _ _)]
end
end Go.Proofs.YtlkkjnacolmmpaaGreatDoor
namespace Go.Proofs.YtlkkjnacolmmpaaGreatDoor
set_option maxRecDepth 100000
open Go Go.RowKit
set_option linter.unusedVariables false

def DataV.val (v : DataV) : Value := .agg #[.string v.d, .string v.f, .string v.t, .int .u64 (v.x.a : Int), .int .u64 (v.x.b : Int), .int .u64 (v.x.c : Int), .int .u64 (v.x.d : Int)]
def parseV (l : List UInt8) : Value := match readD l with
  | some v => .tuple #[v.val, .int .i64 0]
  | none => .tuple #[DataV.none.val, .int .i64 140]

set_option maxHeartbeats 8000000 in
theorem tparse_any (v : Value) (l : List UInt8) (w : World) (hr : Rd w w.heap.size v l) (hl : l.length ≤ 140737488355320) :
    Calls Tryz.prog 38 #[v] w fun e w' => e = .returned (parseV l) ∧ Below w.heap.size w w' := by
  have ha0 : Below w.heap.size w (w.alloc (.cells #[.string ⟨#[]⟩, .string ⟨#[]⟩, .string ⟨#[]⟩, .int .u64 0, .int .u64 0, .int .u64 0, .int .u64 0] 76)) := (Below.refl _ _).alloc (Nat.le_refl _) _
  have hk0 := heap_alloc_new w (.cells #[.string ⟨#[]⟩, .string ⟨#[]⟩, .string ⟨#[]⟩, .int .u64 0, .int .u64 0, .int .u64 0, .int .u64 0] 76)
  have HO := Lib.hid (open_rd v l _ (hr.up (Nat.le_refl _) ha0) hl)
  obtain ⟨A, c, rfl⟩ := hr.form
  clear hr
  obtain ⟨V, hV⟩ : ∃ V, V = parseV l := ⟨_, rfl⟩
  rw [← hV]
  unfold parseV readD at hV
  have HV := Lib.hid hV
  clear hV
  go_enter Tryz.func38, Tryz.ntmps38
  go_wp2_with fail
  refine HO.out.mono ?_
  rintro e w1 ⟨g, rfl, hr1, hb1⟩
  have hq1 := below_chain ha0 ha0.size hb1
  have hk1 := (hb1.block _ (blk_lt hk0)).trans hk0
  have hg1 := hr1.from_
  have hg2 := hr1.lt
  have hgs : w.heap.size < (w.alloc (.cells #[.string ⟨#[]⟩, .string ⟨#[]⟩, .string ⟨#[]⟩, .int .u64 0, .int .u64 0, .int .u64 0, .int .u64 0] 76)).heap.size := blk_lt hk0
  generalize (w.alloc (.cells #[.string ⟨#[]⟩, .string ⟨#[]⟩, .string ⟨#[]⟩, .int .u64 0, .int .u64 0, .int .u64 0, .int .u64 0] 76)).heap.size = lo at *
  obtain ⟨gr, hgr⟩ : ∃ gr, gr = w.heap.size := ⟨_, rfl⟩
  obtain ⟨gd, hgd⟩ : ∃ gd, gd = w1.heap.size := ⟨_, rfl⟩
  have P1 : PZ 176 w gr gd lo g 76 76 #[.string ⟨#[]⟩, .string ⟨#[]⟩, .string ⟨#[]⟩, .int .u64 0, .int .u64 0, .int .u64 0, .int .u64 0] #[.string ⟨#[]⟩, .string ⟨#[]⟩, .string ⟨#[]⟩, .int .u64 0, .int .u64 0, .int .u64 0, .int .u64 0] l 0 (w1.alloc (.cells #[.string ⟨#[]⟩, .string ⟨#[]⟩, .string ⟨#[]⟩, .int .u64 0, .int .u64 0, .int .u64 0, .int .u64 0] 76)) :=
    ⟨hq1.alloc hq1.size _, by omega, by have := hq1.size; omega, by rw [hgr]; exact (Below.heap_alloc w1 _ _ (blk_lt hk1)).trans hk1, by rw [hgd]; exact heap_alloc_new w1 _, hr1.below ((Below.refl _ _).alloc (Nat.le_refl _) _), by omega, by omega⟩
  clear hq1 hk1 hg1 hg2 hgs hr1 hb1 HO hk0 ha0
  go_wp2_with fail
  rw [← hgd]
  rw [← hgr]
  generalize w1.alloc (.cells #[.string ⟨#[]⟩, .string ⟨#[]⟩, .string ⟨#[]⟩, .int .u64 0, .int .u64 0, .int .u64 0, .int .u64 0] 76) = wz at *
  clear hgr hgd
  refine (rdT_any P1.rd).mono ?_
  rintro e wa1 ⟨rfl, hr, hg⟩
  replace P1 := P1.call hg hr
  clear hr hg
  have b_d := rB_le l 0
  generalize rB l 0 = Q at *
  obtain ⟨d, l_d, f_d⟩ := Q
  dsimp only at P1 HV b_d ⊢
  have z0 := blk_cell P1.loc 0
  have f0 := blk_free P1.loc 0
  have P2 : PZ 176 w gr gd lo g _ 76 _ #[.string ⟨d.toArray⟩, .string ⟨#[]⟩, .string ⟨#[]⟩, .int .u64 0, .int .u64 0, .int .u64 0, .int .u64 0] l_d f_d (wa1.setCell ⟨gd, 0, none⟩ (.string ⟨d.toArray⟩)) := P1.set 0 _
  clear P1
  go_wp2_with fail
  generalize wa1.setCell ⟨gd, 0, none⟩ (.string ⟨d.toArray⟩) = wb1 at *
  refine (rdT_any P2.rd).mono ?_
  rintro e wa2 ⟨rfl, hr, hg⟩
  replace P2 := P2.call hg hr
  clear hr hg
  have b_f := rB_le l_d f_d
  generalize rB l_d f_d = Q at *
  obtain ⟨f, l_f, f_f⟩ := Q
  dsimp only at P2 HV b_f ⊢
  have z0 := blk_cell P2.loc 1
  have f0 := blk_free P2.loc 1
  have P3 : PZ 176 w gr gd lo g _ 76 _ #[.string ⟨d.toArray⟩, .string ⟨f.toArray⟩, .string ⟨#[]⟩, .int .u64 0, .int .u64 0, .int .u64 0, .int .u64 0] l_f f_f (wa2.setCell ⟨gd, 1, none⟩ (.string ⟨f.toArray⟩)) := P2.set 1 _
  clear P2
  go_wp2_with fail
  generalize wa2.setCell ⟨gd, 1, none⟩ (.string ⟨f.toArray⟩) = wb2 at *
  refine (rdT_any P3.rd).mono ?_
  rintro e wa3 ⟨rfl, hr, hg⟩
  replace P3 := P3.call hg hr
  clear hr hg
  have b_t := rB_le l_f f_f
  generalize rB l_f f_f = Q at *
  obtain ⟨t, l_t, f_t⟩ := Q
  dsimp only at P3 HV b_t ⊢
  have z0 := blk_cell P3.loc 2
  have f0 := blk_free P3.loc 2
  have P4 : PZ 176 w gr gd lo g _ 76 _ #[.string ⟨d.toArray⟩, .string ⟨f.toArray⟩, .string ⟨t.toArray⟩, .int .u64 0, .int .u64 0, .int .u64 0, .int .u64 0] l_t f_t (wa3.setCell ⟨gd, 2, none⟩ (.string ⟨t.toArray⟩)) := P3.set 2 _
  clear P3
  go_wp2_with fail
  generalize wa3.setCell ⟨gd, 2, none⟩ (.string ⟨t.toArray⟩) = wb3 at *
  refine (rdB_any P4.rd).mono ?_
  rintro e w4 ⟨vB, rfl, hoB, hr, hg⟩
  replace P4 := P4.call hg hr
  clear hr hg
  generalize rB l_t f_t = Q at *
  obtain ⟨b, l_b, f_b⟩ := Q
  dsimp only at P4 HV hoB ⊢
  have HF := Lib.hid (from_any vB b _ hoB.rd)
  obtain ⟨AB, cB, rfl⟩ := hoB.form
  go_wp2_with fail
  refine HF.out.mono ?_
  rintro e w5 ⟨rfl, hb5⟩
  replace P4 := P4.up hb5
  clear hb5 HF hoB
  have hux := fromU_ok b
  generalize fromU b = Q at *
  obtain ⟨x, fe⟩ := Q
  dsimp only at P4 HV hux ⊢
  unfold U4.val U4.cells
  have P5 := P4.alloc (.cells #[.int .u64 (x.a : Int), .int .u64 (x.b : Int), .int .u64 (x.c : Int), .int .u64 (x.d : Int)] 74)
  have hu5 := heap_alloc_new w5 (.cells #[.int .u64 (x.a : Int), .int .u64 (x.b : Int), .int .u64 (x.c : Int), .int .u64 (x.d : Int)] 74)
  have u0 := blk_cell hu5 0
  have u1 := blk_cell hu5 1
  have u2 := blk_cell hu5 2
  have u3 := blk_cell hu5 3
  have z3 := blk_cell P5.loc 3
  have z4 := blk_cell P5.loc 4
  have z5 := blk_cell P5.loc 5
  have z6 := blk_cell P5.loc 6
  have f3 := blk_free P5.loc 3
  have f4 := blk_free P5.loc 4
  have f5 := blk_free P5.loc 5
  have f6 := blk_free P5.loc 6
  have P6 := (((P5.set 3 (.int .u64 (x.a : Int))).set 4 (.int .u64 (x.b : Int))).set 5 (.int .u64 (x.c : Int))).set 6 (.int .u64 (x.d : Int))
  clear P4
  go_wp2_with fail
  have hU6 : P6.rd.from_ = P6.rd.from_ := rfl
  clear hU6
  generalize hW6 : (((((w5.alloc (.cells #[.int .u64 (x.a : Int), .int .u64 (x.b : Int), .int .u64 (x.c : Int), .int .u64 (x.d : Int)] 74)).setCell ⟨gd, 3, none⟩ (.int .u64 (x.a : Int))).setCell ⟨gd, 4, none⟩ (.int .u64 (x.b : Int))).setCell ⟨gd, 5, none⟩ (.int .u64 (x.c : Int))).setCell ⟨gd, 6, none⟩ (.int .u64 (x.d : Int))) = w6 at *
  clear hW6 P5 hu5 u0 u1 u2 u3 z3 z4 z5 z6 f3 f4 f5 f6
  refine (rdEnd_any P6.rd).mono ?_
  rintro e w7 ⟨rfl, rfl⟩
  generalize rEnd l_b f_b = E at *
  by_cases hE : E = 0
  · subst hE
    by_cases hF : fe = 0
    · subst hF
      have HR := Lib.hid (right_any ⟨f.toArray⟩ ⟨d.toArray⟩ x w6 (by show f.length ≤ _; unfold maxLen; omega) (by show d.length ≤ _; unfold maxLen; omega))
      have HI := Lib.hid (fun W : World => ident_any ⟨t.toArray⟩ W (by show t.length ≤ _; unfold maxLen; omega))
      unfold U4.val U4.cells at HR
      have s0 := blk_cell P6.loc 0
      have s1 := blk_cell P6.loc 1
      have s2 := blk_cell P6.loc 2
      have s3 := blk_cell P6.loc 3
      have s4 := blk_cell P6.loc 4
      have s5 := blk_cell P6.loc 5
      have s6 := blk_cell P6.loc 6
      go_wp2_with fail
      refine HR.out.mono ?_
      rintro e w8 ⟨rfl, hb8⟩
      replace P6 := P6.up hb8
      clear HR hb8 s0 s1 s2 s3 s4 s5 s6
      generalize rightM ⟨f.toArray⟩ ⟨d.toArray⟩ x = R at *
      have s0 := blk_cell P6.loc 0
      have s1 := blk_cell P6.loc 1
      have s2 := blk_cell P6.loc 2
      have s3 := blk_cell P6.loc 3
      have s4 := blk_cell P6.loc 4
      have s5 := blk_cell P6.loc 5
      have s6 := blk_cell P6.loc 6
      have r0 := blk_cell P6.res 0
      have q0 := blk_free P6.res 0
      have r1 := blk_cell P6.res 1
      have q1 := blk_free P6.res 1
      have r2 := blk_cell P6.res 2
      have q2 := blk_free P6.res 2
      have r3 := blk_cell P6.res 3
      have q3 := blk_free P6.res 3
      have r4 := blk_cell P6.res 4
      have q4 := blk_free P6.res 4
      have r5 := blk_cell P6.res 5
      have q5 := blk_free P6.res 5
      have r6 := blk_cell P6.res 6
      have q6 := blk_free P6.res 6
      by_cases hR : R = 0
      · subst hR
        go_wp2_with fail
        refine (HI.out _).mono ?_
        rintro e w9 ⟨rfl, rfl⟩
        change Hid (V = match (if True ∧ True ∧ True ∧ identL (⟨t.toArray⟩ : ByteArray).data.toList = true then some (DataV.mk ⟨d.toArray⟩ ⟨f.toArray⟩ ⟨t.toArray⟩ x) else none) with | some v => .tuple #[v.val, .int .i64 0] | none => .tuple #[DataV.none.val, .int .i64 140]) at HV
        generalize identL (⟨t.toArray⟩ : ByteArray).data.toList = ib at *
        cases ib
        · have hv := HV.out
          rw [if_neg (by simp)] at hv
          dsimp only at hv
          clear HV
          have hk7 := set7P P6.res (.string ⟨#[]⟩) (.string ⟨#[]⟩) (.string ⟨#[]⟩) (.int .u64 0) (.int .u64 0) (.int .u64 0) (.int .u64 0)
          have hb7 := below_set7P P6.below P6.hr (.string ⟨#[]⟩) (.string ⟨#[]⟩) (.string ⟨#[]⟩) (.int .u64 0) (.int .u64 0) (.int .u64 0) (.int .u64 0)
          have HD := Lib.hid (And.intro (blk_cell hk7 0) (And.intro (blk_cell hk7 1) (And.intro (blk_cell hk7 2) (And.intro (blk_cell hk7 3) (And.intro (blk_cell hk7 4) (And.intro (blk_cell hk7 5) (blk_cell hk7 6)))))))
          have HVV := Lib.hid hv
          clear hk7 hv
          go_wp2_with fail
          obtain ⟨d0, d1, d2, d3, d4, d5, d6⟩ := HD.out
          refine bodyPost_ret (v := V) ?_ rfl ⟨rfl, hb7⟩
          rw [HVV.out]
          simp at d0 d1 d2 d3 d4 d5 d6
          simp [results, Tryz.results38, go_sem, d0, d1, d2, d3, d4, d5, d6, DataV.val, DataV.none, U4.zero]
        · have hv := HV.out
          rw [if_pos (by simp)] at hv
          dsimp only at hv
          clear HV
          have hk7 := set7P P6.res (.string ⟨d.toArray⟩) (.string ⟨f.toArray⟩) (.string ⟨t.toArray⟩) (.int .u64 (x.a : Int)) (.int .u64 (x.b : Int)) (.int .u64 (x.c : Int)) (.int .u64 (x.d : Int))
          have hb7 := below_set7P P6.below P6.hr (.string ⟨d.toArray⟩) (.string ⟨f.toArray⟩) (.string ⟨t.toArray⟩) (.int .u64 (x.a : Int)) (.int .u64 (x.b : Int)) (.int .u64 (x.c : Int)) (.int .u64 (x.d : Int))
          have HD := Lib.hid (And.intro (blk_cell hk7 0) (And.intro (blk_cell hk7 1) (And.intro (blk_cell hk7 2) (And.intro (blk_cell hk7 3) (And.intro (blk_cell hk7 4) (And.intro (blk_cell hk7 5) (blk_cell hk7 6)))))))
          have HVV := Lib.hid hv
          clear hk7 hv
          go_wp2_with fail
          obtain ⟨d0, d1, d2, d3, d4, d5, d6⟩ := HD.out
          refine bodyPost_ret (v := V) ?_ rfl ⟨rfl, hb7⟩
          rw [HVV.out]
          simp at d0 d1 d2 d3 d4 d5 d6
          simp [results, Tryz.results38, go_sem, d0, d1, d2, d3, d4, d5, d6, DataV.val]
      · have hne : (R != 0) = true := by simpa using hR
        have hv := HV.out
        rw [if_neg (by simp [hR])] at hv
        dsimp only at hv
        clear HV HI
        have hk7 := set7P P6.res (.string ⟨#[]⟩) (.string ⟨#[]⟩) (.string ⟨#[]⟩) (.int .u64 0) (.int .u64 0) (.int .u64 0) (.int .u64 0)
        have hb7 := below_set7P P6.below P6.hr (.string ⟨#[]⟩) (.string ⟨#[]⟩) (.string ⟨#[]⟩) (.int .u64 0) (.int .u64 0) (.int .u64 0) (.int .u64 0)
        have HD := Lib.hid (And.intro (blk_cell hk7 0) (And.intro (blk_cell hk7 1) (And.intro (blk_cell hk7 2) (And.intro (blk_cell hk7 3) (And.intro (blk_cell hk7 4) (And.intro (blk_cell hk7 5) (blk_cell hk7 6)))))))
        have HVV := Lib.hid hv
        clear hk7 hv
        go_wp2_with fail
        obtain ⟨d0, d1, d2, d3, d4, d5, d6⟩ := HD.out
        refine bodyPost_ret (v := V) ?_ rfl ⟨rfl, hb7⟩
        rw [HVV.out]
        simp at d0 d1 d2 d3 d4 d5 d6
        simp [results, Tryz.results38, go_sem, d0, d1, d2, d3, d4, d5, d6, DataV.val, DataV.none, U4.zero]
    · have hne : (fe != 0) = true := by simpa using hF
      have hv := HV.out
      rw [if_neg (by simp [hF])] at hv
      dsimp only at hv
      clear HV
      have r0 := blk_cell P6.res 0
      have q0 := blk_free P6.res 0
      have r1 := blk_cell P6.res 1
      have q1 := blk_free P6.res 1
      have r2 := blk_cell P6.res 2
      have q2 := blk_free P6.res 2
      have r3 := blk_cell P6.res 3
      have q3 := blk_free P6.res 3
      have r4 := blk_cell P6.res 4
      have q4 := blk_free P6.res 4
      have r5 := blk_cell P6.res 5
      have q5 := blk_free P6.res 5
      have r6 := blk_cell P6.res 6
      have q6 := blk_free P6.res 6
      have hk7 := set7P P6.res (.string ⟨#[]⟩) (.string ⟨#[]⟩) (.string ⟨#[]⟩) (.int .u64 0) (.int .u64 0) (.int .u64 0) (.int .u64 0)
      have hb7 := below_set7P P6.below P6.hr (.string ⟨#[]⟩) (.string ⟨#[]⟩) (.string ⟨#[]⟩) (.int .u64 0) (.int .u64 0) (.int .u64 0) (.int .u64 0)
      have HD := Lib.hid (And.intro (blk_cell hk7 0) (And.intro (blk_cell hk7 1) (And.intro (blk_cell hk7 2) (And.intro (blk_cell hk7 3) (And.intro (blk_cell hk7 4) (And.intro (blk_cell hk7 5) (blk_cell hk7 6)))))))
      have HVV := Lib.hid hv
      clear hk7 hv
      go_wp2_with fail
      obtain ⟨d0, d1, d2, d3, d4, d5, d6⟩ := HD.out
      refine bodyPost_ret (v := V) ?_ rfl ⟨rfl, hb7⟩
      rw [HVV.out]
      simp at d0 d1 d2 d3 d4 d5 d6
      simp [results, Tryz.results38, go_sem, d0, d1, d2, d3, d4, d5, d6, DataV.val, DataV.none, U4.zero]
  · have hne : (E != 0) = true := by simpa using hE
    have hv := HV.out
    rw [if_neg (by simp [hE])] at hv
    dsimp only at hv
    clear HV
    have r0 := blk_cell P6.res 0
    have q0 := blk_free P6.res 0
    have r1 := blk_cell P6.res 1
    have q1 := blk_free P6.res 1
    have r2 := blk_cell P6.res 2
    have q2 := blk_free P6.res 2
    have r3 := blk_cell P6.res 3
    have q3 := blk_free P6.res 3
    have r4 := blk_cell P6.res 4
    have q4 := blk_free P6.res 4
    have r5 := blk_cell P6.res 5
    have q5 := blk_free P6.res 5
    have r6 := blk_cell P6.res 6
    have q6 := blk_free P6.res 6
    have hk7 := set7P P6.res (.string ⟨#[]⟩) (.string ⟨#[]⟩) (.string ⟨#[]⟩) (.int .u64 0) (.int .u64 0) (.int .u64 0) (.int .u64 0)
    have hb7 := below_set7P P6.below P6.hr (.string ⟨#[]⟩) (.string ⟨#[]⟩) (.string ⟨#[]⟩) (.int .u64 0) (.int .u64 0) (.int .u64 0) (.int .u64 0)
    have HD := Lib.hid (And.intro (blk_cell hk7 0) (And.intro (blk_cell hk7 1) (And.intro (blk_cell hk7 2) (And.intro (blk_cell hk7 3) (And.intro (blk_cell hk7 4) (And.intro (blk_cell hk7 5) (blk_cell hk7 6)))))))
    have HVV := Lib.hid hv
    clear hk7 hv
    go_wp2_with fail
    obtain ⟨d0, d1, d2, d3, d4, d5, d6⟩ := HD.out
    refine bodyPost_ret (v := V) ?_ rfl ⟨rfl, hb7⟩
    rw [HVV.out]
    simp at d0 d1 d2 d3 d4 d5 d6
    simp [results, Tryz.results38, go_sem, d0, d1, d2, d3, d4, d5, d6, DataV.val, DataV.none, U4.zero]

end Go.Proofs.YtlkkjnacolmmpaaGreatDoor
namespace Go.Proofs.YtlkkjnacolmmpaaGreatDoor
set_option maxRecDepth 100000
open Go Go.RowKit
set_option linter.unusedVariables false

theorem Tryz.dataF : ∃ f0 f1 f2 f3 : Field, (Tryz.prog.fieldsOf 76).toList = [f0, f1, f2, f3] ∧ f0.type = 9 ∧ f1.type = 9 ∧ f2.type = 9 ∧ f3.type = 74 ∧ f0.offset = 0 ∧ f1.offset = 1 ∧ f2.offset = 2 ∧ f3.offset = 3 :=
  ⟨_, _, _, _, (by rfl), rfl, rfl, rfl, rfl, rfl, rfl, rfl, rfl⟩
theorem data_self (a b c : ByteArray) (x : U4) : ∀ f ∈ (Tryz.prog.fieldsOf 76).toList, SelfF #[.string a, .string b, .string c, .int .u64 (x.a : Int), .int .u64 (x.b : Int), .int .u64 (x.c : Int), .int .u64 (x.d : Int)] f := by
  obtain ⟨f0, f1, f2, f3, hl, t0, t1, t2, t3, o0, o1, o2, o3⟩ := Tryz.dataF
  rw [hl]
  intro f hf
  simp only [List.mem_cons, List.not_mem_nil, or_false] at hf
  rcases hf with rfl | rfl | rfl | rfl
  · exact self_str a (by rw [t0]; exact Tryz.underlying9) (fun w => by rw [t0, o0]; rfl)
  · exact self_str b (by rw [t1]; exact Tryz.underlying9) (fun w => by rw [t1, o1]; rfl)
  · exact self_str c (by rw [t2]; exact Tryz.underlying9) (fun w => by rw [t2, o2]; rfl)
  · exact self_u4 x t3 (fun w => by rw [o3]; rfl)
theorem data_eql (a b c : ByteArray) (x : U4) (W : World) : (binOp .eql 76 (.agg #[.string a, .string b, .string c, .int .u64 (x.a : Int), .int .u64 (x.b : Int), .int .u64 (x.c : Int), .int .u64 (x.d : Int)]) (.agg #[.string a, .string b, .string c, .int .u64 (x.a : Int), .int .u64 (x.b : Int), .int .u64 (x.c : Int), .int .u64 (x.d : Int)])).run Tryz.prog W = .ok (.bool true) W :=
  eql_self (by kernel_rfl) (by kernel_rfl) (data_self a b c x) W
end Go.Proofs.YtlkkjnacolmmpaaGreatDoor
namespace Go.Proofs.YtlkkjnacolmmpaaGreatDoor
set_option maxRecDepth 100000
open Go Go.RowKit
set_option linter.unusedVariables false

theorem tesc_any (a : ByteArray) (w : World) (ha : a.size ≤ 100000000) : Calls Tryz.prog 47 #[.string a] w fun e w' => e = .returned (.string (kEsc a)) ∧ w = w' := by
  have s1 : escP.size = 7 := rfl
  have h1 := fun W => txt_add escP a (by rw [s1]; omega) W
  unfold kEsc
  unfold escP at *
  go_enter Tryz.func47, Tryz.ntmps47
  go_wp2
  go_ret
  exact ⟨rfl, rfl⟩
theorem tlimkey_any (a d : ByteArray) (w : World) (ha : a.size ≤ 100000000) (hd : d.size ≤ 100000000) : Calls Tryz.prog 111 #[.string a, .string d] w fun e w' => e = .returned (.string (kLim a d)) ∧ w = w' := by
  have s1 : limP.size = 6 := rfl
  have s2 : slB.size = 1 := rfl
  have h1 := fun W => txt_add limP a (by rw [s1]; omega) W
  have h2 := fun W => txt_add (limP ++ a) slB (by rw [ByteArray.size_append, s1, s2]; omega) W
  have h3 := fun W => txt_add ((limP ++ a) ++ slB) d (by rw [ByteArray.size_append, ByteArray.size_append, s1, s2]; omega) W
  unfold kLim
  generalize (limP ++ a) ++ slB = x2 at *
  generalize hx1 : limP ++ a = x1 at *
  clear hx1
  unfold limP slB at *
  go_enter Tryz.func111, Tryz.ntmps111
  go_wp2
  go_ret
  exact ⟨rfl, rfl⟩
set_option maxHeartbeats 1000000 in
theorem through_any (d a : ByteArray) (w : World) (hd : d.size ≤ maxLen) (ha : a.size ≤ maxLen) : Calls Tryz.prog 112 #[.string d, .string a] w fun e w' => (∃ r, e = .returned (.tuple #[.string r, .bool (thruB d a)])) ∧ ∃ n, w' = w.drewN n := by
  have HH := Lib.hid (hop_any d w hd)
  unfold hopV at HH
  unfold thruB
  cases e : hopL d.data.toList with
  | none =>
    rw [e] at HH
    clear e
    dsimp only at HH ⊢
    go_enter Tryz.func112, Tryz.ntmps112
    go_wp2_with fail
    refine HH.out.mono ?_
    rintro e w1 ⟨rfl, n, rfl⟩
    go_wp2_with fail
    go_ret2
    exact ⟨⟨_, rfl⟩, n, rfl⟩
  | some q =>
    obtain ⟨h, r⟩ := q
    rw [e] at HH
    clear e
    dsimp only at HH ⊢
    by_cases hh : h = a.data.toList
    · have hb : (⟨h.toArray⟩ : ByteArray) = a := by rw [hh]
      rw [hb] at HH
      rw [decide_eq_true hh]
      clear hb hh
      go_enter Tryz.func112, Tryz.ntmps112
      go_wp2_with fail
      refine HH.out.mono ?_
      rintro e w1 ⟨rfl, n, rfl⟩
      go_wp2_with fail
      go_ret2
      exact ⟨⟨_, rfl⟩, n, rfl⟩
    · have hb : (⟨h.toArray⟩ : ByteArray) ≠ a := fun e => hh (by rw [← e])
      rw [decide_eq_false hh]
      generalize (⟨h.toArray⟩ : ByteArray) = hx at *
      have hq : (hx.toList == a.toList) = false := by rw [beqS, decide_eq_false hb]
      clear hh
      go_enter Tryz.func112, Tryz.ntmps112
      go_wp2_with fail
      refine HH.out.mono ?_
      rintro e w1 ⟨rfl, n, rfl⟩
      go_wp2_with fail
      go_ret2
      exact ⟨⟨_, rfl⟩, n, rfl⟩

theorem boxL {w : World} {cs : Array Value} (t : TypeId) : ∀ W, Below w.heap.size (w.alloc (.cells cs t)) W → Below w.heap.size w W := fun W h => ((Below.refl _ _).alloc (Nat.le_refl _) _).trans h
/-- what is put of texts, bytes and numbers, by the program -/
theorem T0 (v : Value) (s : ByteArray) (l : List UInt8) (Z : World) (hr : Rd Z Z.heap.size v l) (hs : s.size ≤ maxLen) (hl : l.length ≤ 140737488355328 - 65539) :
    Calls Tryz.prog 84 #[v, .string s] Z fun e w' => ∃ v', e = .returned v' ∧ Own w' Z.heap.size v' (l ++ encT s) ∧ Below Z.heap.size Z w' :=
  (T_any v s l Z hr hs hl).mono fun e w' ⟨v', h1, h2, h3⟩ => ⟨v', h1, by rw [List.append_assoc] at h2; exact h2, h3⟩
theorem B0 (v x : Value) (l m : List UInt8) (Z : World) (hr : Rd Z Z.heap.size v l) (hx : Rd Z Z.heap.size x m) (hl : l.length ≤ 140737488355328 - 65539) :
    Calls Tryz.prog 107 #[v, x] Z fun e w' => ∃ v', e = .returned v' ∧ Own w' Z.heap.size v' (l ++ encB m) ∧ Below Z.heap.size Z w' :=
  (B_any v x l m Z hr hx hl).mono fun e w' ⟨v', h1, h2, h3⟩ => ⟨v', h1, by rw [List.append_assoc] at h2; exact h2, h3⟩
theorem encB_len (m : List UInt8) : (encB m).length ≤ 65539 := by
  unfold encB
  simp [be_length]
  omega
theorem encT_len2 (s : ByteArray) : (encT s).length ≤ 65539 := encB_len _

set_option maxHeartbeats 4000000 in
theorem tbytes_any (v : DataV) (w : World) (hv : v.x.ok) (hd : v.d.size ≤ maxLen) (hf : v.f.size ≤ maxLen) (ht : v.t.size ≤ maxLen) :
    Calls Tryz.prog 41 #[v.val] w fun e w' => ∃ v', e = .returned v' ∧ Own w' w.heap.size v' (dataB v) ∧ Below w.heap.size w w' := by
  obtain ⟨d, f, t, x⟩ := v
  dsimp only at hv hd hf ht
  unfold DataV.val dataB
  dsimp only
  have hbox := heap_alloc_new w (.cells #[.string d, .string f, .string t, .int .u64 (x.a : Int), .int .u64 (x.b : Int), .int .u64 (x.c : Int), .int .u64 (x.d : Int)] 76)
  have ha0 : Below w.heap.size w (w.alloc (.cells #[.string d, .string f, .string t, .int .u64 (x.a : Int), .int .u64 (x.b : Int), .int .u64 (x.c : Int), .int .u64 (x.d : Int)] 76)) := (Below.refl _ _).alloc (Nat.le_refl _) _
  generalize hW0 : w.alloc (.cells #[.string d, .string f, .string t, .int .u64 (x.a : Int), .int .u64 (x.b : Int), .int .u64 (x.c : Int), .int .u64 (x.d : Int)] 76) = W0 at *
  have hgl := blk_lt hbox
  have HC : Hid (∀ Z, Below W0.heap.size W0 Z → Z.cell? ⟨w.heap.size, 0, none⟩ = some (.string d) ∧ Z.cell? ⟨w.heap.size, 1, none⟩ = some (.string f) ∧ Z.cell? ⟨w.heap.size, 2, none⟩ = some (.string t)) := Lib.hid fun Z hz =>
    ⟨blk_cell ((hz.block _ hgl).trans hbox) 0, blk_cell ((hz.block _ hgl).trans hbox) 1, blk_cell ((hz.block _ hgl).trans hbox) 2⟩
  have HC3 : Hid (∀ Z, Below W0.heap.size W0 Z → Z.cell? ⟨w.heap.size, 3, none⟩ = some (.int .u64 (x.a : Int)) ∧ Z.cell? ⟨w.heap.size, 4, none⟩ = some (.int .u64 (x.b : Int)) ∧ Z.cell? ⟨w.heap.size, 5, none⟩ = some (.int .u64 (x.c : Int)) ∧ Z.cell? ⟨w.heap.size, 6, none⟩ = some (.int .u64 (x.d : Int))) := Lib.hid fun Z hz =>
    ⟨blk_cell ((hz.block _ hgl).trans hbox) 3, blk_cell ((hz.block _ hgl).trans hbox) 4, blk_cell ((hz.block _ hgl).trans hbox) 5, blk_cell ((hz.block _ hgl).trans hbox) 6⟩
  have hkD : Below W0.heap.size W0 W0.drew := Below.drew (Below.refl _ _)
  have HT1 := Lib.hid (T0 (.slice none 0 0) d [] W0.drew (Rd.nil _ _) hd (by simp))
  have e1 : ([] : List UInt8) ++ encT d = encT d := rfl
  rw [e1] at HT1
  have l1 := encT_len2 d
  have l2 := encT_len2 f
  have l3 := encT_len2 t
  have HT2 : Hid (∀ (v : Value) (Z : World) (B : Nat), Own Z B v (encT d) → Calls Tryz.prog 84 #[v, .string f] Z fun e w' => ∃ v', e = .returned v' ∧ Own w' Z.heap.size v' (encT d ++ encT f) ∧ Below Z.heap.size Z w') :=
    Lib.hid fun v Z B ho => T0 v f _ Z ho.rd hf (by omega)
  have HT3 : Hid (∀ (v : Value) (Z : World) (B : Nat), Own Z B v (encT d ++ encT f) → Calls Tryz.prog 84 #[v, .string t] Z fun e w' => ∃ v', e = .returned v' ∧ Own w' Z.heap.size v' (encT d ++ encT f ++ encT t) ∧ Below Z.heap.size Z w') :=
    Lib.hid fun v Z B ho => T0 v t _ Z ho.rd ht (by simp; omega)
  have HB : Hid (∀ (v u : Value) (Z : World) (B C : Nat), Own Z B v (encT d ++ encT f ++ encT t) → Own Z C u (be x.nat 32) → Calls Tryz.prog 107 #[v, u] Z fun e w' => ∃ v', e = .returned v' ∧ Own w' Z.heap.size v' (encT d ++ encT f ++ encT t ++ encB (be x.nat 32)) ∧ Below Z.heap.size Z w') :=
    Lib.hid fun v u Z B C ho hu => B0 v u _ _ Z ho.rd hu.rd (by simp; omega)
  have HL := Lib.hid (fun W : World => bytes_any x W hv)
  unfold U4.val U4.cells at HL
  generalize encT d ++ encT f ++ encT t ++ encB (be x.nat 32) = L4 at *
  generalize encT d ++ encT f ++ encT t = L3 at *
  generalize encT d ++ encT f = L2 at *
  generalize encT d = L1 at *
  generalize be x.nat 32 = LX at *
  clear hbox e1 l1 l2 l3 hv hd hf ht
  go_enter Tryz.func41, Tryz.ntmps41
  go_wp2_with fail
  try rw [hW0]
  clear hW0
  generalize hgg : w.heap.size = g0 at *
  go_region_held_law (fun Z => Z.cell? ⟨g0, 0, none⟩ = some (.string d) ∧ Z.cell? ⟨g0, 1, none⟩ = some (.string f) ∧ Z.cell? ⟨g0, 2, none⟩ = some (.string t))
    (with_reducible first | exact HC.out _ hk3 | exact HC.out _ hk2 | exact HC.out _ hk1 | exact HC.out _ hkD)
    ((go_at_call 84; first
      | (refine (HT3.out _ _ _ ho2).mono ?_; rintro e w3 ⟨v3, rfl, ho3, hb3⟩; have hk3 := below_chain hk2 hk2.size hb3)
      | (refine (HT2.out _ _ _ ho1).mono ?_; rintro e w2 ⟨v2, rfl, ho2, hb2⟩; have hk2 := below_chain hk1 hk1.size hb2)
      | (refine HT1.out.mono ?_; rintro e w1 ⟨v1, rfl, ho1, hb1⟩; have hk1 := below_chain hkD hkD.size hb1)))
  all_goals
    obtain ⟨A3, c3, rfl⟩ := ho3.form
    obtain ⟨c30, c31, c32, c33⟩ := HC3.out _ hk3
    generalize L3.length = n3 at *
    go_wp2_with fail
    refine (HL.out _).mono ?_
    rintro e w4 ⟨vx, rfl, hox, hb4⟩
    have hk4 := below_chain hk3 hk3.size hb4
    have ho4 := Own.below ho3 hb4
    have HB2 := Lib.hid (HB.out _ _ _ _ _ ho4 hox)
    obtain ⟨Ax, cx, rfl⟩ := hox.form
    clear hox ho4 HB HL
    generalize LX.length = nx at *
    go_wp2_with fail
    refine HB2.out.mono ?_
    rintro e w5 ⟨v5, rfl, ho5, hb5⟩
    obtain ⟨A5, c5, rfl⟩ := ho5.form
    subst hgg
    have q4 := below_chain ha0 ha0.size hk4
    have hk5 := below_chain q4 q4.size hb5
    have hs4 := q4.size
    go_wp2_with fail
    go_ret
    exact ⟨_, rfl, ho5.more hs4, hk5⟩
end Go.Proofs.YtlkkjnacolmmpaaGreatDoor
namespace Go.Proofs.YtlkkjnacolmmpaaGreatDoor
set_option maxRecDepth 100000
open Go Go.RowKit
set_option linter.unusedVariables false

set_option maxHeartbeats 4000000 in
theorem tsend_zero (p : Value) (id f d t : ByteArray) (ht tm : Nat) (w : World) (hid : identB f = true) (hdn : denomB d = true) (hf : f.size ≤ 100000000) (hd : d.size ≤ 100000000) :
    Calls Tryz.prog 106 #[p, .string id, .string f, .string d, U4.zero.val, .string t, .int .u64 (ht : Int), .int .u64 (tm : Int)] w fun e w' => e = .returned (.tuple #[.agg #[.string ⟨#[]⟩, .string ⟨#[]⟩, .int .u64 0, .slice none 0 0, .int .u64 0, .int .u64 0], .int .i64 70]) ∧ Below w.heap.size w w' := by
  have ha0 : Below w.heap.size w (w.alloc (.cells #[.int .u64 0, .int .u64 0, .int .u64 0, .int .u64 0] 74)) := (Below.refl _ _).alloc (Nat.le_refl _) _
  have hu := heap_alloc_new w (.cells #[.int .u64 0, .int .u64 0, .int .u64 0, .int .u64 0] 74)
  have ha1 := ha0.alloc ha0.size (.cells #[.string ⟨#[]⟩, .string ⟨#[]⟩, .int .u64 0, .slice none 0 0, .int .u64 0, .int .u64 0] 91)
  have hk := heap_alloc_new (w.alloc (.cells #[.int .u64 0, .int .u64 0, .int .u64 0, .int .u64 0] 74)) (.cells #[.string ⟨#[]⟩, .string ⟨#[]⟩, .int .u64 0, .slice none 0 0, .int .u64 0, .int .u64 0] 91)
  have hlt : w.heap.size ≤ (w.alloc (.cells #[.int .u64 0, .int .u64 0, .int .u64 0, .int .u64 0] 74)).heap.size := ha0.size
  have e0 : rightM f d U4.zero = 70 := by
    unfold rightM
    rw [if_pos hid, if_pos hdn]
    rfl
  have HR := Lib.hid (fun W : World => right_any f d U4.zero W (by unfold maxLen; omega) (by unfold maxLen; omega))
  rw [e0] at HR
  clear hid hdn e0
  unfold U4.val U4.cells U4.zero at *
  dsimp only at *
  go_enter Tryz.func106, Tryz.ntmps106
  go_wp2_with fail
  refine (HR.out _).mono ?_
  rintro e w1 ⟨rfl, hb1⟩
  have hb2 := below_chain ha1 ha1.size hb1
  have hk1 := (hb1.block _ (blk_lt hk)).trans hk
  rw [show (w.alloc (.cells #[.int .u64 0, .int .u64 0, .int .u64 0, .int .u64 0] 74)).heap.size = w.heap.size + 1 by simp] at hk1 hlt
  have r0 := blk_cell hk1 0
  have r1 := blk_cell hk1 1
  have r2 := blk_cell hk1 2
  have r3 := blk_cell hk1 3
  have r4 := blk_cell hk1 4
  have r5 := blk_cell hk1 5
  have q0 := blk_free hk1 0
  have q1 := blk_free hk1 1
  have q2 := blk_free hk1 2
  have q3 := blk_free hk1 3
  have q4 := blk_free hk1 4
  have q5 := blk_free hk1 5
  have hk7 := set6P hk1 (.string ⟨#[]⟩) (.string ⟨#[]⟩) (.int .u64 0) (.slice none 0 0) (.int .u64 0) (.int .u64 0)
  have hb7 := below_set6P hb2 hlt (.string ⟨#[]⟩) (.string ⟨#[]⟩) (.int .u64 0) (.slice none 0 0) (.int .u64 0) (.int .u64 0)
  have HD := Lib.hid (And.intro (blk_cell hk7 0) (And.intro (blk_cell hk7 1) (And.intro (blk_cell hk7 2) (And.intro (blk_cell hk7 3) (And.intro (blk_cell hk7 4) (blk_cell hk7 5))))))
  clear hk7 hk1 hk hu ha1 hb1
  go_wp2_with fail
  obtain ⟨d0, d1, d2, d3, d4, d5⟩ := HD.out
  refine bodyPost_ret (v := .tuple #[.agg #[.string ⟨#[]⟩, .string ⟨#[]⟩, .int .u64 0, .slice none 0 0, .int .u64 0, .int .u64 0], .int .i64 70]) ?_ rfl ⟨rfl, hb7⟩
  simp at d0 d1 d2 d3 d4 d5
  simp [results, Tryz.results106, go_sem, d0, d1, d2, d3, d4, d5]

def kChan0 : ByteArray := ⟨#[99, 104, 97, 110, 45, 48]⟩
def fixD : DataV := ⟨kAtom, kAnn, kBob, ⟨5, 0, 0, 0⟩⟩
theorem fixD_read : parseV (dataB fixD) = .tuple #[fixD.val, .int .i64 0] := by
  unfold parseV
  rw [readD_dataB fixD ⟨by unfold U4.ok fixD; decide, by decide +kernel, by decide +kernel, by decide +kernel⟩ (by decide +kernel) (by decide +kernel)]
theorem fixD_nil : parseV [] = .tuple #[DataV.none.val, .int .i64 140] := rfl
theorem fixD_esc : kEsc kChan0 = ⟨#[101, 115, 99, 114, 111, 119, 46, 99, 104, 97, 110, 45, 48]⟩ := by decide +kernel
theorem fixD_len : (dataB fixD).length ≤ 1000 := by decide +kernel

set_option maxHeartbeats 8000000 in
theorem tfixed_any (w : World) : Calls Tryz.prog 40 #[] w fun e w' => e = .returned (.bool true) ∧ Below w.heap.size w w' := by
  have HN : Hid (∀ W : World, _) := Lib.hid (fun W : World => new_any W (.slice none 0 0) [] ⟨none, 0, rfl, Nat.le_refl _, Nat.zero_le _, fun h => absurd h (by simp)⟩ (by simp))
  have HB := Lib.hid (fun W : World => tbytes_any fixD W (by unfold U4.ok fixD; decide) (by decide +kernel) (by decide +kernel) (by decide +kernel))
  have HP : Hid (∀ (v : Value) (W : World) (B : Nat), Own W B v (dataB fixD) → Calls Tryz.prog 38 #[v] W fun e w' => e = .returned (.tuple #[fixD.val, .int .i64 0]) ∧ Below W.heap.size W w') :=
    Lib.hid fun v W B ho => by rw [← fixD_read]; exact tparse_any v _ W ho.rd (by have := fixD_len; omega)
  have HP0 : Hid (∀ W : World, Calls Tryz.prog 38 #[.slice none 0 0] W fun e w' => e = .returned (.tuple #[DataV.none.val, .int .i64 140]) ∧ Below W.heap.size W w') :=
    Lib.hid fun W => by rw [← fixD_nil]; exact tparse_any _ _ W (Rd.nil _ _) (by simp)
  have HS := Lib.hid (fun (p : Value) (W : World) => tsend_zero p kChan0 kAnn kAtom kBob 0 0 W (by decide +kernel) (by decide +kernel) (by decide +kernel) (by decide +kernel))
  have HE := Lib.hid (fun W : World => tesc_any kChan0 W (by decide +kernel))
  rw [fixD_esc] at HE
  unfold DataV.val DataV.none fixD U4.zero U4.val U4.cells at *
  unfold kAtom kAnn kBob kChan0 at *
  dsimp only at HB HP HP0 HS HE
  generalize dataB _ = LB at *
  go_enter Tryz.func40, Tryz.ntmps40
  go_wp2_with fail
  refine (HB.out _).mono ?_
  rintro e w1 ⟨v1, rfl, ho1, hb1⟩
  have ha0 : Below w.heap.size w (w.alloc (.cells #[.string ⟨#[97, 116, 111, 109]⟩, .string ⟨#[97, 110, 110]⟩, .string ⟨#[98, 111, 98]⟩, .int .u64 5, .int .u64 0, .int .u64 0, .int .u64 0] 76)) := (Below.refl _ _).alloc (Nat.le_refl _) _
  have k1 := heap_alloc_new w (.cells #[.string ⟨#[97, 116, 111, 109]⟩, .string ⟨#[97, 110, 110]⟩, .string ⟨#[98, 111, 98]⟩, .int .u64 5, .int .u64 0, .int .u64 0, .int .u64 0] 76)
  have q1 := below_chain ha0 ha0.size hb1
  replace k1 := (hb1.block _ (blk_lt k1)).trans k1
  have HP1 := Lib.hid (HP.out _ _ _ ho1)
  obtain ⟨A1, c1, rfl⟩ := ho1.form
  clear ho1 HB HP ha0 hb1
  generalize LB.length = nB at *
  go_wp2_with fail
  refine HP1.out.mono ?_
  rintro e w2 ⟨rfl, hb2⟩
  have q2 := below_chain q1 q1.size hb2
  replace k1 := (hb2.block _ (blk_lt k1)).trans k1
  have q3 := q2.alloc q2.size (.cells #[.string ⟨#[97, 116, 111, 109]⟩, .string ⟨#[97, 110, 110]⟩, .string ⟨#[98, 111, 98]⟩, .int .u64 5, .int .u64 0, .int .u64 0, .int .u64 0] 76)
  have k2 := heap_alloc_new w2 (.cells #[.string ⟨#[97, 116, 111, 109]⟩, .string ⟨#[97, 110, 110]⟩, .string ⟨#[98, 111, 98]⟩, .int .u64 5, .int .u64 0, .int .u64 0, .int .u64 0] 76)
  replace k1 := (Below.heap_alloc w2 (.cells #[.string ⟨#[97, 116, 111, 109]⟩, .string ⟨#[97, 110, 110]⟩, .string ⟨#[98, 111, 98]⟩, .int .u64 5, .int .u64 0, .int .u64 0, .int .u64 0] 76) _ (blk_lt k1)).trans k1
  clear q1 q2 hb2 HP1
  go_wp2_with fail
  generalize w2.alloc (.cells #[.string ⟨#[97, 116, 111, 109]⟩, .string ⟨#[97, 110, 110]⟩, .string ⟨#[98, 111, 98]⟩, .int .u64 5, .int .u64 0, .int .u64 0, .int .u64 0] 76) = w3 at *
  generalize w2.heap.size = g2 at *
  refine (HP0.out _).mono ?_
  rintro e w4 ⟨rfl, hb4⟩
  have q4 := below_chain q3 q3.size hb4
  replace k1 := (hb4.block _ (blk_lt k1)).trans k1
  replace k2 := (hb4.block _ (blk_lt k2)).trans k2
  have q5 := q4.alloc q4.size (.cells #[.string ⟨#[]⟩, .string ⟨#[]⟩, .string ⟨#[]⟩, .int .u64 0, .int .u64 0, .int .u64 0, .int .u64 0] 76)
  replace k1 := (Below.heap_alloc w4 (.cells #[.string ⟨#[]⟩, .string ⟨#[]⟩, .string ⟨#[]⟩, .int .u64 0, .int .u64 0, .int .u64 0, .int .u64 0] 76) _ (blk_lt k1)).trans k1
  replace k2 := (Below.heap_alloc w4 (.cells #[.string ⟨#[]⟩, .string ⟨#[]⟩, .string ⟨#[]⟩, .int .u64 0, .int .u64 0, .int .u64 0, .int .u64 0] 76) _ (blk_lt k2)).trans k2
  clear q3 q4 hb4 HP0
  go_wp2_with fail
  generalize w4.alloc (.cells #[.string ⟨#[]⟩, .string ⟨#[]⟩, .string ⟨#[]⟩, .int .u64 0, .int .u64 0, .int .u64 0, .int .u64 0] 76) = w5 at *
  refine (HN.out _).mono ?_
  rintro e w6 ⟨h1 | ⟨-, y, rfl, -⟩, hb6⟩
  · exact absurd h1.1 (by decide)
  have q6 := below_chain q5 q5.size hb6
  replace k1 := (hb6.block _ (blk_lt k1)).trans k1
  replace k2 := (hb6.block _ (blk_lt k2)).trans k2
  have HS1 := Lib.hid (HS.out (.pointer (some ⟨y.b, 0, none⟩)) w6)
  clear q5 hb6 HN HS
  go_wp2_with fail
  refine HS1.out.mono ?_
  rintro e w7 ⟨rfl, hb7⟩
  have q7 := below_chain q6 q6.size hb7
  replace k1 := (hb7.block _ (blk_lt k1)).trans k1
  replace k2 := (hb7.block _ (blk_lt k2)).trans k2
  have q8 := q7.alloc q7.size (.cells #[.string ⟨#[]⟩, .string ⟨#[]⟩, .int .u64 0, .slice none 0 0, .int .u64 0, .int .u64 0] 91)
  replace k1 := (Below.heap_alloc w7 (.cells #[.string ⟨#[]⟩, .string ⟨#[]⟩, .int .u64 0, .slice none 0 0, .int .u64 0, .int .u64 0] 91) _ (blk_lt k1)).trans k1
  replace k2 := (Below.heap_alloc w7 (.cells #[.string ⟨#[]⟩, .string ⟨#[]⟩, .int .u64 0, .slice none 0 0, .int .u64 0, .int .u64 0] 91) _ (blk_lt k2)).trans k2
  have hq : ∀ W : World, (binOp .eql 76 (.agg #[.string ⟨#[97, 116, 111, 109]⟩, .string ⟨#[97, 110, 110]⟩, .string ⟨#[98, 111, 98]⟩, .int .u64 5, .int .u64 0, .int .u64 0, .int .u64 0]) (.agg #[.string ⟨#[97, 116, 111, 109]⟩, .string ⟨#[97, 110, 110]⟩, .string ⟨#[98, 111, 98]⟩, .int .u64 5, .int .u64 0, .int .u64 0, .int .u64 0])).run Tryz.prog W = .ok (.bool true) W := fun W => data_eql _ _ _ ⟨5, 0, 0, 0⟩ W
  clear q6 q7 hb7 HS1
  have x0 := blk_cell k1 0
  have y0 := blk_cell k2 0
  have x1 := blk_cell k1 1
  have y1 := blk_cell k2 1
  have x2 := blk_cell k1 2
  have y2 := blk_cell k2 2
  have x3 := blk_cell k1 3
  have y3 := blk_cell k2 3
  have x4 := blk_cell k1 4
  have y4 := blk_cell k2 4
  have x5 := blk_cell k1 5
  have y5 := blk_cell k2 5
  have x6 := blk_cell k1 6
  have y6 := blk_cell k2 6
  go_wp2_with fail
  refine (HE.out _).mono ?_
  rintro e w9 ⟨rfl, rfl⟩
  go_wp2_with fail
  go_ret
  exact ⟨rfl, q8⟩
end Go.Proofs.YtlkkjnacolmmpaaGreatDoor
namespace Go.Proofs.YtlkkjnacolmmpaaGreatDoor
set_option maxRecDepth 100000
open Go Go.RowKit
set_option linter.unusedVariables false

theorem Acc.moreT {W W' : World} {y : Lyr} {R : List Pr} {k k' : Nat} (h : Acc W y R k W') (hk : k ≤ k') : Acc W y R k' W' := ⟨h.b.up (Below.refl _ _) hk, h.p⟩
theorem kEsc_size (a : ByteArray) : (kEsc a).size = a.size + 7 := by
  unfold kEsc
  rw [ByteArray.size_append]
  have : escP.size = 7 := by decide +kernel
  omega
set_option maxHeartbeats 8000000 in
theorem trefund_any {W W' : World} {y : Lyr} {R : List Pr} {k : Nat} (h : Acc W y R k W') (hn : y.n + k + 2 ≤ maxLen) (src dst : ByteArray) (seq ht tm : Nat) (vd : Value) (l : List UInt8) (hr : Rd W' W'.heap.size vd l) (hl : l.length ≤ 140737488355320) (hs : src.size ≤ 10000000) :
    Calls Tryz.prog 45 #[.pointer (some ⟨y.b, 0, none⟩), .agg #[.string src, .string dst, .int .u64 (seq : Int), vd, .int .u64 (ht : Int), .int .u64 (tm : Int)]] W' fun e w' => e = .returned (.int .i64 (refundM R src l).1) ∧ Acc W y (refundM R src l).2 (k + 2) w' ∧ Kept W' w' := by
  have hbox := heap_alloc_new W' (.cells #[.string src, .string dst, .int .u64 (seq : Int), vd, .int .u64 (ht : Int), .int .u64 (tm : Int)] 91)
  have ha0 : Below W'.heap.size W' (W'.alloc (.cells #[.string src, .string dst, .int .u64 (seq : Int), vd, .int .u64 (ht : Int), .int .u64 (tm : Int)] 91)) := (Below.refl _ _).alloc (Nat.le_refl _) _
  have HP := Lib.hid (tparse_any vd l _ (hr.up (Nat.le_refl _) ha0) hl)
  have A0 := h.up ha0
  obtain ⟨A, c, rfl⟩ := hr.form
  clear hr h
  generalize hW0 : W'.alloc (.cells #[.string src, .string dst, .int .u64 (seq : Int), .slice A l.length c, .int .u64 (ht : Int), .int .u64 (tm : Int)] 91) = W0 at *
  have hk0 := Kept.of_below ha0
  unfold parseV at HP
  unfold refundM
  have hfm := @readD_form l
  have b0 := blk_cell hbox 0
  have b3 := blk_cell hbox 3
  cases hrd : readD l with
  | none =>
    rw [hrd] at HP
    clear hrd hfm
    dsimp only at HP ⊢
    unfold DataV.none DataV.val U4.zero at HP
    dsimp only at HP
    generalize l.length = n at *
    go_enter Tryz.func45, Tryz.ntmps45
    go_wp2_with fail
    try rw [hW0]
    refine HP.out.mono ?_
    rintro e w1 ⟨rfl, hb1⟩
    have hb2 := hb1.alloc hb1.size (.cells #[.string ⟨#[]⟩, .string ⟨#[]⟩, .string ⟨#[]⟩, .int .u64 0, .int .u64 0, .int .u64 0, .int .u64 0] 76)
    have A2 := (A0.up hb2).moreT (show k ≤ k + 2 by omega)
    have hk2 := hk0.trans (Kept.of_below hb2)
    clear A0 hbox
    go_wp2_with fail
    go_ret
    exact ⟨rfl, A2, hk2⟩
  | some v =>
    rw [hrd] at HP
    obtain ⟨-, vok, vd1, vf1, vt1⟩ := hfm hrd
    clear hrd hfm
    obtain ⟨d, f, t, x⟩ := v
    dsimp only at HP vok vd1 vf1 vt1 ⊢
    unfold DataV.val at HP
    dsimp only at HP
    have HT := Lib.hid (fun W : World => through_any d src W (by unfold maxLen; omega) (by unfold maxLen; omega))
    have HE := Lib.hid (fun W : World => (tesc_any src W (by omega)).mono fun e w' ⟨h1, h2⟩ => (⟨h1, h2.symm⟩ : _ ∧ w' = W))
    have HM : Hid (∀ Z, Below W0.heap.size W0 Z → Calls Tryz.prog 113 #[.pointer (some ⟨y.b, 0, none⟩), .string f, .string d, x.val] Z fun e w' => e = .returned (.int .i64 (mintM R f d x).1) ∧ Acc W y (mintM R f d x).2 (k + 2) w' ∧ Kept Z w') :=
      Lib.hid fun Z hz => (A0.up hz).mint hn f d x vok (by omega) (by omega)
    have HS : Hid (∀ Z, Below W0.heap.size W0 Z → Calls Tryz.prog 114 #[.pointer (some ⟨y.b, 0, none⟩), .string (kEsc src), .string f, .string d, x.val] Z fun e w' => e = .returned (.int .i64 (sendM R (kEsc src) f d x).1) ∧ Acc W y (sendM R (kEsc src) f d x).2 (k + 2) w' ∧ Kept Z w') :=
      Lib.hid fun Z hz => (A0.up hz).send hn (kEsc src) f d x vok (by rw [kEsc_size]; omega) (by omega) (by omega)
    unfold U4.val U4.cells at HM HS
    generalize hmm : mintM R f d x = qm at *
    generalize hss : sendM R (kEsc src) f d x = qs at *
    generalize thruB d src = tb at *
    generalize kEsc src = ke at *
    clear hmm hss vok vd1 vf1 vt1 hs hl hn
    generalize l.length = n at *
    go_enter Tryz.func45, Tryz.ntmps45
    go_wp2_with fail
    try rw [hW0]
    refine HP.out.mono ?_
    rintro e w1 ⟨rfl, hb1⟩
    have hb2 := hb1.alloc hb1.size (.cells #[.string d, .string f, .string t, .int .u64 (x.a : Int), .int .u64 (x.b : Int), .int .u64 (x.c : Int), .int .u64 (x.d : Int)] 76)
    have hd2 := heap_alloc_new w1 (.cells #[.string d, .string f, .string t, .int .u64 (x.a : Int), .int .u64 (x.b : Int), .int .u64 (x.c : Int), .int .u64 (x.d : Int)] 76)
    have hx2 := (hb2.block _ (blk_lt hbox)).trans hbox
    have hk2 := hk0.trans (Kept.of_below hb2)
    have c0 := blk_cell hx2 0
    clear A0 HP hb1
    go_wp2_with fail
    generalize w1.alloc (.cells #[.string d, .string f, .string t, .int .u64 (x.a : Int), .int .u64 (x.b : Int), .int .u64 (x.c : Int), .int .u64 (x.d : Int)] 76) = w2 at *
    generalize w1.heap.size = gd at *
    generalize W'.heap.size = gp at *
    refine (HT.out _).mono ?_
    rintro e w3 ⟨⟨r, rfl⟩, m, rfl⟩
    have hb3 := below_drewN' hb2 m
    have hd3 : (w2.drewN m).heap[gd]? = some (.cells #[.string d, .string f, .string t, .int .u64 (x.a : Int), .int .u64 (x.b : Int), .int .u64 (x.c : Int), .int .u64 (x.d : Int)] 76 (0, 0)) := hd2
    have hx3 : (w2.drewN m).heap[gp]? = some (.cells #[.string src, .string dst, .int .u64 (seq : Int), .slice A n c, .int .u64 (ht : Int), .int .u64 (tm : Int)] 91 (0, 0)) := hx2
    have hk3 := hk2.trans (Kept.of_below (below_drewN' (Below.refl _ w2) m))
    generalize w2.drewN m = w3 at *
    have e0 := blk_cell hd3 0
    have e1 := blk_cell hd3 1
    have e3 := blk_cell hd3 3
    have e4 := blk_cell hd3 4
    have e5 := blk_cell hd3 5
    have e6 := blk_cell hd3 6
    have p0 := blk_cell hx3 0
    have HC : Hid (∀ Z, Kept w3 Z → Z.cell? ⟨gp, 0, none⟩ = some (.string src) ∧ Z.cell? ⟨gd, 0, none⟩ = some (.string d) ∧ Z.cell? ⟨gd, 1, none⟩ = some (.string f) ∧ Z.cell? ⟨gd, 3, none⟩ = some (.int .u64 (x.a : Int)) ∧ Z.cell? ⟨gd, 4, none⟩ = some (.int .u64 (x.b : Int)) ∧ Z.cell? ⟨gd, 5, none⟩ = some (.int .u64 (x.c : Int)) ∧ Z.cell? ⟨gd, 6, none⟩ = some (.int .u64 (x.d : Int))) :=
      Lib.hid fun Z hz => ⟨hz.cell (blk_cell hx3 0), hz.cell (blk_cell hd3 0), hz.cell (blk_cell hd3 1), hz.cell (blk_cell hd3 3), hz.cell (blk_cell hd3 4), hz.cell (blk_cell hd3 5), hz.cell (blk_cell hd3 6)⟩
    clear hd2 hx2 hb2 hk2 c0 HT
    cases tb
    · have HS2 := Lib.hid (HS.out _ (Below.drew hb3))
      have hkD := Kept.drew w3
      go_wp2_with fail
      go_region_held_law (fun Z => Z.cell? ⟨gp, 0, none⟩ = some (.string src) ∧ Z.cell? ⟨gd, 0, none⟩ = some (.string d) ∧ Z.cell? ⟨gd, 1, none⟩ = some (.string f) ∧ Z.cell? ⟨gd, 3, none⟩ = some (.int .u64 (x.a : Int)) ∧ Z.cell? ⟨gd, 4, none⟩ = some (.int .u64 (x.b : Int)) ∧ Z.cell? ⟨gd, 5, none⟩ = some (.int .u64 (x.c : Int)) ∧ Z.cell? ⟨gd, 6, none⟩ = some (.int .u64 (x.d : Int)))
        (with_reducible first | exact HC.out _ hkF | exact HC.out _ hkD)
        ((first
          | (go_at_call 47; refine (HE.out _).mono ?_; rintro e w9 ⟨rfl, rfl⟩)
          | (go_at_call 114; refine HS2.out.mono ?_; rintro e wS ⟨rfl, AS, hkS⟩; have hkF := hkD.trans hkS)))
      all_goals
        have hfin := hk3.trans hkF
        go_wp2_with fail
        go_ret
        exact ⟨rfl, AS, hfin⟩
    · have HM2 := Lib.hid (HM.out _ hb3)
      go_wp2_with fail
      refine HM2.out.mono ?_
      rintro e w4 ⟨rfl, A4, hk4⟩
      go_wp2_with fail
      go_ret
      exact ⟨rfl, A4, hk3.trans hk4⟩
end Go.Proofs.YtlkkjnacolmmpaaGreatDoor
namespace Go.Proofs.YtlkkjnacolmmpaaGreatDoor
set_option maxRecDepth 100000
open Go Go.RowKit
set_option linter.unusedVariables false

def LimV.val (v : LimV) : Value := .agg #[.int .u64 (v.q.a : Int), .int .u64 (v.q.b : Int), .int .u64 (v.q.c : Int), .int .u64 (v.q.d : Int), .int .u64 (v.w : Int), .int .u64 (v.s : Int), .int .u64 (v.u.a : Int), .int .u64 (v.u.b : Int), .int .u64 (v.u.c : Int), .int .u64 (v.u.d : Int)]
def limV : Option LimV → Value
  | some v => .tuple #[v.val, .bool true]
  | none => .tuple #[LimV.none.val, .bool false]
theorem kLim_size (a d : ByteArray) : (kLim a d).size = a.size + d.size + 7 := by
  unfold kLim
  simp only [ByteArray.size_append]
  have h1 : limP.size = 6 := by decide +kernel
  have h2 : slB.size = 1 := by decide +kernel
  omega
set_option maxHeartbeats 8000000 in
theorem tgetlim_any {W w : World} {y : Lyr} {R : List Pr} {k : Nat} (h : Acc W y R k w) (a d : ByteArray) (ha : a.size ≤ 100000000) (hd : d.size ≤ 100000000) :
    Calls Tryz.prog 44 #[.pointer (some ⟨y.b, 0, none⟩), .string a, .string d] w fun e w' => e = .returned (limV (getLim R a d)) ∧ Below w.heap.size w w' := by
  have HG := Lib.hid (fun (Z : World) (hz : Below w.heap.size w Z) => (h.up hz).get (kLim a d) (by rw [kLim_size]; unfold maxLen; omega))
  have HFT := Lib.hid (fun v e => (h.fits (key := kLim a d) (v := v) e).2)
  obtain ⟨B, hB⟩ : ∃ B : Addr, B = ⟨y.b, 0, none⟩ := ⟨_, rfl⟩
  rw [← hB] at HG ⊢
  clear hB h
  have HK := Lib.hid (fun W => (tlimkey_any a d W ha hd).mono fun e w' ⟨h1, h2⟩ => (⟨h1, h2.symm⟩ : _ ∧ w' = W))
  obtain ⟨V, hV⟩ : ∃ V, V = limV (getLim R a d) := ⟨_, rfl⟩
  rw [← hV]
  unfold getLim at hV
  generalize getL R (kLim a d) = o at *
  generalize kLim a d = key at *
  have hk0 := heap_alloc_new w (.cells #[.int .u64 0, .int .u64 0, .int .u64 0, .int .u64 0, .int .u64 0, .int .u64 0, .int .u64 0, .int .u64 0, .int .u64 0, .int .u64 0] 78)
  have ha0 : Below w.heap.size w (w.alloc (.cells #[.int .u64 0, .int .u64 0, .int .u64 0, .int .u64 0, .int .u64 0, .int .u64 0, .int .u64 0, .int .u64 0, .int .u64 0, .int .u64 0] 78)) := (Below.refl _ _).alloc (Nat.le_refl _) _
  go_enter Tryz.func44, Tryz.ntmps44
  go_wp2_with fail
  generalize w.alloc (.cells #[.int .u64 0, .int .u64 0, .int .u64 0, .int .u64 0, .int .u64 0, .int .u64 0, .int .u64 0, .int .u64 0, .int .u64 0, .int .u64 0] 78) = w0 at *
  refine (HK.out _).mono ?_
  rintro e w9 ⟨rfl, rfl⟩
  go_wp2_with fail
  refine (HG.out _ ha0).mono ?_
  rintro e w1 ⟨v, rfl, hov, hb1⟩
  have hq1 := below_chain ha0 ha0.size hb1
  have hk1 := (hb1.block _ (blk_lt hk0)).trans hk0
  have hl0 := blk_lt hk0
  obtain ⟨gr, hgr⟩ : ∃ gr, gr = w.heap.size := ⟨_, rfl⟩
  rw [← hgr] at hk1
  clear HG HK hk0 hb1
  cases o with
  | none =>
    have hv : V = .tuple #[LimV.none.val, .bool false] := hV
    obtain ⟨A, c, rfl⟩ := hov.form
    have r0 := blk_cell hk1 0
    have q0 := blk_free hk1 0
    have r1 := blk_cell hk1 1
    have q1 := blk_free hk1 1
    have r2 := blk_cell hk1 2
    have q2 := blk_free hk1 2
    have r3 := blk_cell hk1 3
    have q3 := blk_free hk1 3
    have r4 := blk_cell hk1 4
    have q4 := blk_free hk1 4
    have r5 := blk_cell hk1 5
    have q5 := blk_free hk1 5
    have r6 := blk_cell hk1 6
    have q6 := blk_free hk1 6
    have r7 := blk_cell hk1 7
    have q7 := blk_free hk1 7
    have r8 := blk_cell hk1 8
    have q8 := blk_free hk1 8
    have r9 := blk_cell hk1 9
    have q9 := blk_free hk1 9
    clear hov HFT hV
    subst hgr
    have hk7 := set10P hk1 (.int .u64 0) (.int .u64 0) (.int .u64 0) (.int .u64 0) (.int .u64 0) (.int .u64 0) (.int .u64 0) (.int .u64 0) (.int .u64 0) (.int .u64 0)
    have hb7 := below_set10P hq1 (Nat.le_refl _) (.int .u64 0) (.int .u64 0) (.int .u64 0) (.int .u64 0) (.int .u64 0) (.int .u64 0) (.int .u64 0) (.int .u64 0) (.int .u64 0) (.int .u64 0)
    have HD := Lib.hid (And.intro (blk_cell hk7 0) (And.intro (blk_cell hk7 1) (And.intro (blk_cell hk7 2) (And.intro (blk_cell hk7 3) (And.intro (blk_cell hk7 4) (And.intro (blk_cell hk7 5) (And.intro (blk_cell hk7 6) (And.intro (blk_cell hk7 7) (And.intro (blk_cell hk7 8) (blk_cell hk7 9))))))))))
    have HVV := Lib.hid hv
    clear hk7 hv
    go_wp2_with fail
    obtain ⟨d0, d1, d2, d3, d4, d5, d6, d7, d8, d9⟩ := HD.out
    refine bodyPost_ret (v := V) ?_ rfl ⟨rfl, hb7⟩
    rw [HVV.out]
    simp at d0 d1 d2 d3 d4 d5 d6 d7 d8 d9
    simp [results, Tryz.results44, go_sem, d0, d1, d2, d3, d4, d5, d6, d7, d8, d9, LimV.val, LimV.none, U4.zero]
  | some l =>
    have hll := HFT.out l rfl
    have HV := Lib.hid (show V = limV (readLim l) from hV)
    unfold limV readLim at HV
    have HO := Lib.hid (open_rd v l w1 hov.rd (by omega))
    obtain ⟨A, c, rfl⟩ := hov.form
    clear hov HFT hV
    go_wp2_with fail
    refine HO.out.mono ?_
    rintro e w2 ⟨g, rfl, hr2, hb2⟩
    have hq2 := below_chain hq1 hq1.size hb2
    have hk2 := (hb2.block _ (blk_lt hk1)).trans hk1
    have hgl := hr2.lt
    have hlo := blk_lt hk1
    generalize w1.heap.size = lo at *
    clear HO hb2 hk1 hq1
    have HB0 := Lib.hid (rdB_any hr2)
    go_wp2_with fail
    refine HB0.out.mono ?_
    rintro e w3 ⟨vq_, rfl, hoq_, hr3, hg3⟩
    have hgi := hr2.from_
    have hq3 := hq2.grown hg3 hq2.size (fun k hk => by injection hk with hk; omega)
    have hk3 := (hg3.block _ (blk_lt hk2) (fun e => by injection e with e; omega)).trans hk2
    clear HB0 hr2 hg3 hq2 hk2
    generalize rB l 0 = Q at *
    obtain ⟨q_, l_q_, f_q_⟩ := Q
    dsimp only at hr3 HV hoq_ ⊢
    have HF := Lib.hid (from_any vq_ q_ _ hoq_.rd)
    obtain ⟨A_q, c_q, rfl⟩ := hoq_.form
    go_wp2_with fail
    refine HF.out.mono ?_
    rintro e w4 ⟨rfl, hb4⟩
    have hq4 := below_chain hq3 hq3.size hb4
    have hk4 := (hb4.block _ (blk_lt hk3)).trans hk3
    have hr4 := hr3.below hb4
    have hgs4 : g < w4.heap.size := hr4.lt
    have kq := fromU_ok q_
    clear HF hoq_ hq3 hk3 hr3 hb4
    generalize fromU q_ = Q at *
    obtain ⟨q, eq⟩ := Q
    dsimp only at HV kq ⊢
    unfold U4.val U4.cells
    obtain ⟨gd, hgd⟩ : ∃ gd, gd = w4.heap.size := ⟨_, rfl⟩
    have P1 : PZ 176 w gr gd lo g 78 74 #[.int .u64 0, .int .u64 0, .int .u64 0, .int .u64 0, .int .u64 0, .int .u64 0, .int .u64 0, .int .u64 0, .int .u64 0, .int .u64 0] #[.int .u64 (q.a : Int), .int .u64 (q.b : Int), .int .u64 (q.c : Int), .int .u64 (q.d : Int)] l_q_ f_q_ (w4.alloc (.cells #[.int .u64 (q.a : Int), .int .u64 (q.b : Int), .int .u64 (q.c : Int), .int .u64 (q.d : Int)] 74)) :=
      ⟨hq4.alloc hq4.size _, by omega, by have := hq4.size; omega, (Below.heap_alloc w4 _ _ (blk_lt hk4)).trans hk4, by rw [hgd]; exact heap_alloc_new w4 _, hr4.below ((Below.refl _ _).alloc (Nat.le_refl _) _), by omega, by omega⟩
    clear hq4 hk4 hr4 hgs4 hgl hlo hgi
    go_wp2_with fail
    rw [← hgd]
    generalize w4.alloc (.cells #[.int .u64 (q.a : Int), .int .u64 (q.b : Int), .int .u64 (q.c : Int), .int .u64 (q.d : Int)] 74) = wz at *
    clear hgd
    refine (rN_any P1.rd).mono ?_
    rintro e wa1 ⟨rfl, hr, hg⟩
    replace P1 := P1.call hg hr
    clear hr hg
    have b_wn := rN_lt l_q_ f_q_
    generalize rN l_q_ f_q_ = Q at *
    obtain ⟨wn, l_wn, f_wn⟩ := Q
    dsimp only at P1 HV b_wn ⊢
    go_wp2_with fail
    refine (rN_any P1.rd).mono ?_
    rintro e wa1 ⟨rfl, hr, hg⟩
    replace P1 := P1.call hg hr
    clear hr hg
    have b_sn := rN_lt l_wn f_wn
    generalize rN l_wn f_wn = Q at *
    obtain ⟨sn, l_sn, f_sn⟩ := Q
    dsimp only at P1 HV b_sn ⊢
    go_wp2_with fail
    refine (rdB_any P1.rd).mono ?_
    rintro e wa1 ⟨vu_, rfl, hou_, hr, hg⟩
    replace P1 := P1.call hg hr
    clear hr hg
    have b_u_ := rB_le l_sn f_sn
    generalize rB l_sn f_sn = Q at *
    obtain ⟨u_, l_u_, f_u_⟩ := Q
    dsimp only at P1 HV b_u_ hou_ ⊢
    have HF := Lib.hid (from_any vu_ u_ _ hou_.rd)
    obtain ⟨A_u, c_u, rfl⟩ := hou_.form
    go_wp2_with fail
    refine HF.out.mono ?_
    rintro e wuu ⟨rfl, hb5⟩
    replace P1 := P1.up hb5
    clear hb5 HF hou_
    have ku := fromU_ok u_
    generalize fromU u_ = Q at *
    obtain ⟨u, eu⟩ := Q
    dsimp only at P1 HV ku ⊢
    unfold U4.val U4.cells
    have P2 := P1.alloc (.cells #[.int .u64 (u.a : Int), .int .u64 (u.b : Int), .int .u64 (u.c : Int), .int .u64 (u.d : Int)] 74)
    have hu := heap_alloc_new wuu (.cells #[.int .u64 (u.a : Int), .int .u64 (u.b : Int), .int .u64 (u.c : Int), .int .u64 (u.d : Int)] 74)
    clear P1
    have u0 := blk_cell hu 0
    have u1 := blk_cell hu 1
    have u2 := blk_cell hu 2
    have u3 := blk_cell hu 3
    go_wp2_with fail
    generalize wuu.alloc (.cells #[.int .u64 (u.a : Int), .int .u64 (u.b : Int), .int .u64 (u.c : Int), .int .u64 (u.d : Int)] 74) = wcu at *
    refine (rdEnd_any P2.rd).mono ?_
    rintro e w7 ⟨rfl, rfl⟩
    generalize rEnd l_u_ f_u_ = E at *
    subst hgr
    by_cases hE : E = 0
    · subst hE
      by_cases hq : eq = 0
      · subst hq
        by_cases hu0 : eu = 0
        · subst hu0
          have hv := HV.out
          rw [if_pos (by simp)] at hv
          dsimp only at hv
          clear HV
          have r0 := blk_cell P2.res 0
          have q0 := blk_free P2.res 0
          have r1 := blk_cell P2.res 1
          have q1 := blk_free P2.res 1
          have r2 := blk_cell P2.res 2
          have q2 := blk_free P2.res 2
          have r3 := blk_cell P2.res 3
          have q3 := blk_free P2.res 3
          have r4 := blk_cell P2.res 4
          have q4 := blk_free P2.res 4
          have r5 := blk_cell P2.res 5
          have q5 := blk_free P2.res 5
          have r6 := blk_cell P2.res 6
          have q6 := blk_free P2.res 6
          have r7 := blk_cell P2.res 7
          have q7 := blk_free P2.res 7
          have r8 := blk_cell P2.res 8
          have q8 := blk_free P2.res 8
          have r9 := blk_cell P2.res 9
          have q9 := blk_free P2.res 9
          have s0 := blk_cell P2.loc 0
          have s1 := blk_cell P2.loc 1
          have s2 := blk_cell P2.loc 2
          have s3 := blk_cell P2.loc 3
          have t0 := blk_cell hu 0
          have t1 := blk_cell hu 1
          have t2 := blk_cell hu 2
          have t3 := blk_cell hu 3
          have hk7 := set10P P2.res (.int .u64 (q.a : Int)) (.int .u64 (q.b : Int)) (.int .u64 (q.c : Int)) (.int .u64 (q.d : Int)) (.int .u64 (wn : Int)) (.int .u64 (sn : Int)) (.int .u64 (u.a : Int)) (.int .u64 (u.b : Int)) (.int .u64 (u.c : Int)) (.int .u64 (u.d : Int))
          have hb7 := below_set10P P2.below P2.hr (.int .u64 (q.a : Int)) (.int .u64 (q.b : Int)) (.int .u64 (q.c : Int)) (.int .u64 (q.d : Int)) (.int .u64 (wn : Int)) (.int .u64 (sn : Int)) (.int .u64 (u.a : Int)) (.int .u64 (u.b : Int)) (.int .u64 (u.c : Int)) (.int .u64 (u.d : Int))
          have HD := Lib.hid (And.intro (blk_cell hk7 0) (And.intro (blk_cell hk7 1) (And.intro (blk_cell hk7 2) (And.intro (blk_cell hk7 3) (And.intro (blk_cell hk7 4) (And.intro (blk_cell hk7 5) (And.intro (blk_cell hk7 6) (And.intro (blk_cell hk7 7) (And.intro (blk_cell hk7 8) (blk_cell hk7 9))))))))))
          have HVV := Lib.hid hv
          clear hk7 hv
          go_wp2_with fail
          obtain ⟨d0, d1, d2, d3, d4, d5, d6, d7, d8, d9⟩ := HD.out
          refine bodyPost_ret (v := V) ?_ rfl ⟨rfl, hb7⟩
          rw [HVV.out]
          simp at d0 d1 d2 d3 d4 d5 d6 d7 d8 d9
          simp [results, Tryz.results44, go_sem, d0, d1, d2, d3, d4, d5, d6, d7, d8, d9, LimV.val, LimV.none, U4.zero]
        · have hne : (eu != 0) = true := by simpa using hu0
          have hv := HV.out
          rw [if_neg (by simp [hu0])] at hv
          dsimp only at hv
          clear HV
          have r0 := blk_cell P2.res 0
          have q0 := blk_free P2.res 0
          have r1 := blk_cell P2.res 1
          have q1 := blk_free P2.res 1
          have r2 := blk_cell P2.res 2
          have q2 := blk_free P2.res 2
          have r3 := blk_cell P2.res 3
          have q3 := blk_free P2.res 3
          have r4 := blk_cell P2.res 4
          have q4 := blk_free P2.res 4
          have r5 := blk_cell P2.res 5
          have q5 := blk_free P2.res 5
          have r6 := blk_cell P2.res 6
          have q6 := blk_free P2.res 6
          have r7 := blk_cell P2.res 7
          have q7 := blk_free P2.res 7
          have r8 := blk_cell P2.res 8
          have q8 := blk_free P2.res 8
          have r9 := blk_cell P2.res 9
          have q9 := blk_free P2.res 9
          have hk7 := set10P P2.res (.int .u64 0) (.int .u64 0) (.int .u64 0) (.int .u64 0) (.int .u64 0) (.int .u64 0) (.int .u64 0) (.int .u64 0) (.int .u64 0) (.int .u64 0)
          have hb7 := below_set10P P2.below P2.hr (.int .u64 0) (.int .u64 0) (.int .u64 0) (.int .u64 0) (.int .u64 0) (.int .u64 0) (.int .u64 0) (.int .u64 0) (.int .u64 0) (.int .u64 0)
          have HD := Lib.hid (And.intro (blk_cell hk7 0) (And.intro (blk_cell hk7 1) (And.intro (blk_cell hk7 2) (And.intro (blk_cell hk7 3) (And.intro (blk_cell hk7 4) (And.intro (blk_cell hk7 5) (And.intro (blk_cell hk7 6) (And.intro (blk_cell hk7 7) (And.intro (blk_cell hk7 8) (blk_cell hk7 9))))))))))
          have HVV := Lib.hid hv
          clear hk7 hv
          go_wp2_with fail
          obtain ⟨d0, d1, d2, d3, d4, d5, d6, d7, d8, d9⟩ := HD.out
          refine bodyPost_ret (v := V) ?_ rfl ⟨rfl, hb7⟩
          rw [HVV.out]
          simp at d0 d1 d2 d3 d4 d5 d6 d7 d8 d9
          simp [results, Tryz.results44, go_sem, d0, d1, d2, d3, d4, d5, d6, d7, d8, d9, LimV.val, LimV.none, U4.zero]
      · have hne : (eq != 0) = true := by simpa using hq
        have hv := HV.out
        rw [if_neg (by simp [hq])] at hv
        dsimp only at hv
        clear HV
        have r0 := blk_cell P2.res 0
        have q0 := blk_free P2.res 0
        have r1 := blk_cell P2.res 1
        have q1 := blk_free P2.res 1
        have r2 := blk_cell P2.res 2
        have q2 := blk_free P2.res 2
        have r3 := blk_cell P2.res 3
        have q3 := blk_free P2.res 3
        have r4 := blk_cell P2.res 4
        have q4 := blk_free P2.res 4
        have r5 := blk_cell P2.res 5
        have q5 := blk_free P2.res 5
        have r6 := blk_cell P2.res 6
        have q6 := blk_free P2.res 6
        have r7 := blk_cell P2.res 7
        have q7 := blk_free P2.res 7
        have r8 := blk_cell P2.res 8
        have q8 := blk_free P2.res 8
        have r9 := blk_cell P2.res 9
        have q9 := blk_free P2.res 9
        have hk7 := set10P P2.res (.int .u64 0) (.int .u64 0) (.int .u64 0) (.int .u64 0) (.int .u64 0) (.int .u64 0) (.int .u64 0) (.int .u64 0) (.int .u64 0) (.int .u64 0)
        have hb7 := below_set10P P2.below P2.hr (.int .u64 0) (.int .u64 0) (.int .u64 0) (.int .u64 0) (.int .u64 0) (.int .u64 0) (.int .u64 0) (.int .u64 0) (.int .u64 0) (.int .u64 0)
        have HD := Lib.hid (And.intro (blk_cell hk7 0) (And.intro (blk_cell hk7 1) (And.intro (blk_cell hk7 2) (And.intro (blk_cell hk7 3) (And.intro (blk_cell hk7 4) (And.intro (blk_cell hk7 5) (And.intro (blk_cell hk7 6) (And.intro (blk_cell hk7 7) (And.intro (blk_cell hk7 8) (blk_cell hk7 9))))))))))
        have HVV := Lib.hid hv
        clear hk7 hv
        go_wp2_with fail
        obtain ⟨d0, d1, d2, d3, d4, d5, d6, d7, d8, d9⟩ := HD.out
        refine bodyPost_ret (v := V) ?_ rfl ⟨rfl, hb7⟩
        rw [HVV.out]
        simp at d0 d1 d2 d3 d4 d5 d6 d7 d8 d9
        simp [results, Tryz.results44, go_sem, d0, d1, d2, d3, d4, d5, d6, d7, d8, d9, LimV.val, LimV.none, U4.zero]
    · have hne : (E != 0) = true := by simpa using hE
      have hv := HV.out
      rw [if_neg (by simp [hE])] at hv
      dsimp only at hv
      clear HV
      have r0 := blk_cell P2.res 0
      have q0 := blk_free P2.res 0
      have r1 := blk_cell P2.res 1
      have q1 := blk_free P2.res 1
      have r2 := blk_cell P2.res 2
      have q2 := blk_free P2.res 2
      have r3 := blk_cell P2.res 3
      have q3 := blk_free P2.res 3
      have r4 := blk_cell P2.res 4
      have q4 := blk_free P2.res 4
      have r5 := blk_cell P2.res 5
      have q5 := blk_free P2.res 5
      have r6 := blk_cell P2.res 6
      have q6 := blk_free P2.res 6
      have r7 := blk_cell P2.res 7
      have q7 := blk_free P2.res 7
      have r8 := blk_cell P2.res 8
      have q8 := blk_free P2.res 8
      have r9 := blk_cell P2.res 9
      have q9 := blk_free P2.res 9
      have hk7 := set10P P2.res (.int .u64 0) (.int .u64 0) (.int .u64 0) (.int .u64 0) (.int .u64 0) (.int .u64 0) (.int .u64 0) (.int .u64 0) (.int .u64 0) (.int .u64 0)
      have hb7 := below_set10P P2.below P2.hr (.int .u64 0) (.int .u64 0) (.int .u64 0) (.int .u64 0) (.int .u64 0) (.int .u64 0) (.int .u64 0) (.int .u64 0) (.int .u64 0) (.int .u64 0)
      have HD := Lib.hid (And.intro (blk_cell hk7 0) (And.intro (blk_cell hk7 1) (And.intro (blk_cell hk7 2) (And.intro (blk_cell hk7 3) (And.intro (blk_cell hk7 4) (And.intro (blk_cell hk7 5) (And.intro (blk_cell hk7 6) (And.intro (blk_cell hk7 7) (And.intro (blk_cell hk7 8) (blk_cell hk7 9))))))))))
      have HVV := Lib.hid hv
      clear hk7 hv
      go_wp2_with fail
      obtain ⟨d0, d1, d2, d3, d4, d5, d6, d7, d8, d9⟩ := HD.out
      refine bodyPost_ret (v := V) ?_ rfl ⟨rfl, hb7⟩
      rw [HVV.out]
      simp at d0 d1 d2 d3 d4 d5 d6 d7 d8 d9
      simp [results, Tryz.results44, go_sem, d0, d1, d2, d3, d4, d5, d6, d7, d8, d9, LimV.val, LimV.none, U4.zero]
end Go.Proofs.YtlkkjnacolmmpaaGreatDoor
namespace Go.Proofs.YtlkkjnacolmmpaaGreatDoor
set_option maxRecDepth 100000
open Go Go.RowKit
set_option linter.unusedVariables false

theorem limB_len (v : LimV) : (limB v).length ≤ 65535 := by
  unfold limB
  rw [encB32, encB32]
  simp [be_length]
theorem pairB_lim (a d : ByteArray) (v : LimV) : pairB (kLim a d, limB v) = keyB (kLim a d) := by
  unfold pairB
  rw [decide_eq_true (limB_len v), Bool.and_true]
theorem Acc.setLimG {W w : World} {y : Lyr} {R : List Pr} {k : Nat} (h : Acc W y R k w) (hn : y.n + k < maxLen) (a d : ByteArray) (v : LimV) (x : Value) {B : Nat} (ho : Own w B x (limB v)) (hk : (kLim a d).size ≤ maxLen) :
    Calls Tryz.prog 52 #[.pointer (some ⟨y.b, 0, none⟩), .string (kLim a d), x] w fun e w' => (∃ c, e = .returned (.int .i64 c)) ∧ Acc W y (setLim R a d v) (k + 1) w' ∧ Kept w w' := by
  unfold setLim
  rw [← pairB_lim a d v]
  by_cases hp : pairB (kLim a d, limB v) = true
  · rw [if_pos hp]
    exact (h.set hn (kLim a d) hk x (limB v) ho.rd hp).mono fun e w' ⟨h1, h2, h3⟩ => ⟨⟨_, h1⟩, h2, h3⟩
  · rw [if_neg hp]
    obtain ⟨n, f, h1, h2, h3, h4⟩ := h.b
    refine (set_no h1 (show n < maxLen by omega) (kLim a d) hk x (limB v) ho.rd (by simpa using hp)).mono ?_
    rintro e w' ⟨he, rfl⟩
    exact ⟨⟨_, he⟩, h.moreT (by omega), Kept.refl _⟩

set_option maxHeartbeats 8000000 in
theorem tsetlim_any {W w : World} {y : Lyr} {R : List Pr} {k : Nat} (h : Acc W y R k w) (hn : y.n + k < maxLen) (a d : ByteArray) (v : LimV) (hv : v.ok) (ha : a.size ≤ 100000000) (hd : d.size ≤ 100000000) :
    Calls Tryz.prog 43 #[.pointer (some ⟨y.b, 0, none⟩), .string a, .string d, v.val] w fun e w' => e = .returned (.tuple #[]) ∧ Acc W y (setLim R a d v) (k + 1) w' ∧ Kept w w' := by
  obtain ⟨q, wn, sn, u⟩ := v
  obtain ⟨hq, hu, hwn, hsn⟩ := hv
  dsimp only at hq hu hwn hsn
  unfold LimV.val
  dsimp only
  have hbox := heap_alloc_new w (.cells #[.int .u64 (q.a : Int), .int .u64 (q.b : Int), .int .u64 (q.c : Int), .int .u64 (q.d : Int), .int .u64 (wn : Int), .int .u64 (sn : Int), .int .u64 (u.a : Int), .int .u64 (u.b : Int), .int .u64 (u.c : Int), .int .u64 (u.d : Int)] 78)
  have ha0 : Below w.heap.size w (w.alloc (.cells #[.int .u64 (q.a : Int), .int .u64 (q.b : Int), .int .u64 (q.c : Int), .int .u64 (q.d : Int), .int .u64 (wn : Int), .int .u64 (sn : Int), .int .u64 (u.a : Int), .int .u64 (u.b : Int), .int .u64 (u.c : Int), .int .u64 (u.d : Int)] 78)) := (Below.refl _ _).alloc (Nat.le_refl _) _
  have A0 := h.up ha0
  clear h
  generalize hW0 : w.alloc (.cells #[.int .u64 (q.a : Int), .int .u64 (q.b : Int), .int .u64 (q.c : Int), .int .u64 (q.d : Int), .int .u64 (wn : Int), .int .u64 (sn : Int), .int .u64 (u.a : Int), .int .u64 (u.b : Int), .int .u64 (u.c : Int), .int .u64 (u.d : Int)] 78) = W0 at *
  have hgl := blk_lt hbox
  have hkW : Kept w W0 := Kept.of_below ha0
  generalize hgg : w.heap.size = g0 at *
  have HC : Hid (∀ Z, Kept W0 Z → Z.cell? ⟨g0, 0, none⟩ = some (.int .u64 (q.a : Int)) ∧ Z.cell? ⟨g0, 1, none⟩ = some (.int .u64 (q.b : Int)) ∧ Z.cell? ⟨g0, 2, none⟩ = some (.int .u64 (q.c : Int)) ∧ Z.cell? ⟨g0, 3, none⟩ = some (.int .u64 (q.d : Int)) ∧ Z.cell? ⟨g0, 4, none⟩ = some (.int .u64 (wn : Int)) ∧ Z.cell? ⟨g0, 5, none⟩ = some (.int .u64 (sn : Int)) ∧ Z.cell? ⟨g0, 6, none⟩ = some (.int .u64 (u.a : Int)) ∧ Z.cell? ⟨g0, 7, none⟩ = some (.int .u64 (u.b : Int)) ∧ Z.cell? ⟨g0, 8, none⟩ = some (.int .u64 (u.c : Int)) ∧ Z.cell? ⟨g0, 9, none⟩ = some (.int .u64 (u.d : Int))) := Lib.hid fun Z hz =>
    ⟨hz.cell (blk_cell hbox 0), hz.cell (blk_cell hbox 1), hz.cell (blk_cell hbox 2), hz.cell (blk_cell hbox 3), hz.cell (blk_cell hbox 4), hz.cell (blk_cell hbox 5), hz.cell (blk_cell hbox 6), hz.cell (blk_cell hbox 7), hz.cell (blk_cell hbox 8), hz.cell (blk_cell hbox 9)⟩
  have HK := Lib.hid (fun W => (tlimkey_any a d W ha hd).mono fun e w' ⟨h1, h2⟩ => (⟨h1, h2.symm⟩ : _ ∧ w' = W))
  have HLq := Lib.hid (fun W : World => bytes_any q W hq)
  have HLu := Lib.hid (fun W : World => bytes_any u W hu)
  have eb := encB_len (be q.nat 32)
  have HB1 : Hid (∀ (x : Value) (Z : World) (B : Nat), Own Z B x (be q.nat 32) → Calls Tryz.prog 107 #[.slice none 0 0, x] Z fun e w' => ∃ v', e = .returned v' ∧ Own w' Z.heap.size v' (encB (be q.nat 32)) ∧ Below Z.heap.size Z w') :=
    Lib.hid fun x Z B ho => B0 (.slice none 0 0) x [] _ Z (Rd.nil _ _) ho.rd (by simp)
  have HN1 : Hid (∀ (x : Value) (Z : World) (B : Nat), Own Z B x (encB (be q.nat 32)) → Calls Tryz.prog 56 #[x, .int .u64 (wn : Int)] Z fun e w' => ∃ v', e = .returned v' ∧ Own w' Z.heap.size v' (encB (be q.nat 32) ++ be wn 8) ∧ Below Z.heap.size Z w') :=
    Lib.hid fun x Z B ho => N_any x _ wn Z ho.rd hwn (by omega)
  have HN2 : Hid (∀ (x : Value) (Z : World) (B : Nat), Own Z B x (encB (be q.nat 32) ++ be wn 8) → Calls Tryz.prog 56 #[x, .int .u64 (sn : Int)] Z fun e w' => ∃ v', e = .returned v' ∧ Own w' Z.heap.size v' (encB (be q.nat 32) ++ be wn 8 ++ be sn 8) ∧ Below Z.heap.size Z w') :=
    Lib.hid fun x Z B ho => N_any x _ sn Z ho.rd hsn (by simp [be_length]; omega)
  have HB2 : Hid (∀ (v x : Value) (Z : World) (B C : Nat), Own Z B v (encB (be q.nat 32) ++ be wn 8 ++ be sn 8) → Own Z C x (be u.nat 32) → Calls Tryz.prog 107 #[v, x] Z fun e w' => ∃ v', e = .returned v' ∧ Own w' Z.heap.size v' (limB ⟨q, wn, sn, u⟩) ∧ Below Z.heap.size Z w') :=
    Lib.hid fun v x Z B C ho hx => B0 v x _ _ Z ho.rd hx.rd (by simp [be_length]; omega)
  have HS : Hid (∀ (x : Value) (Z : World) (B : Nat), Below W0.heap.size W0 Z → Own Z B x (limB ⟨q, wn, sn, u⟩) → Calls Tryz.prog 52 #[.pointer (some ⟨y.b, 0, none⟩), .string (kLim a d), x] Z fun e w' => (∃ c, e = .returned (.int .i64 c)) ∧ Acc W y (setLim R a d ⟨q, wn, sn, u⟩) (k + 1) w' ∧ Kept Z w') :=
    Lib.hid fun x Z B hz ho => (A0.up hz).setLimG hn a d _ x ho (by rw [kLim_size]; unfold maxLen; omega)
  unfold U4.val U4.cells at HLq HLu
  generalize setLim R a d ⟨q, wn, sn, u⟩ = R2 at *
  generalize limB ⟨q, wn, sn, u⟩ = L4 at *
  generalize encB (be q.nat 32) ++ be wn 8 ++ be sn 8 = L3 at *
  generalize encB (be q.nat 32) ++ be wn 8 = L2 at *
  generalize encB (be q.nat 32) = L1 at *
  generalize be q.nat 32 = Lq at *
  generalize be u.nat 32 = Lu at *
  generalize kLim a d = key at *
  clear eb hq hu hwn hsn A0 hbox
  go_enter Tryz.func43, Tryz.ntmps43
  go_wp2_with fail
  try rw [hW0]
  clear hW0
  have hkD : Below W0.heap.size W0 W0.drew := Below.drew (Below.refl _ _)
  try rw [hgg]
  go_region_held_law (fun Z => Z.cell? ⟨g0, 0, none⟩ = some (.int .u64 (q.a : Int)) ∧ Z.cell? ⟨g0, 1, none⟩ = some (.int .u64 (q.b : Int)) ∧ Z.cell? ⟨g0, 2, none⟩ = some (.int .u64 (q.c : Int)) ∧ Z.cell? ⟨g0, 3, none⟩ = some (.int .u64 (q.d : Int)) ∧ Z.cell? ⟨g0, 4, none⟩ = some (.int .u64 (wn : Int)) ∧ Z.cell? ⟨g0, 5, none⟩ = some (.int .u64 (sn : Int)) ∧ Z.cell? ⟨g0, 6, none⟩ = some (.int .u64 (u.a : Int)) ∧ Z.cell? ⟨g0, 7, none⟩ = some (.int .u64 (u.b : Int)) ∧ Z.cell? ⟨g0, 8, none⟩ = some (.int .u64 (u.c : Int)) ∧ Z.cell? ⟨g0, 9, none⟩ = some (.int .u64 (u.d : Int)))
    (with_reducible first | exact HC.out _ (Kept.of_below hk4) | exact HC.out _ (Kept.of_below hk3) | exact HC.out _ (Kept.of_below hk2) | exact HC.out _ (Kept.of_below hk1) | exact HC.out _ (Kept.of_below hkD))
    ((first
      | (go_at_call 108; refine (HLq.out _).mono ?_; rintro e w1 ⟨v1, rfl, ho1, hb1⟩; have hk1 := below_chain hkD hkD.size hb1)
      | (go_at_call 107; refine (HB1.out _ _ _ ho1).mono ?_; rintro e w2 ⟨v2, rfl, ho2, hb2⟩; have hk2 := below_chain hk1 hk1.size hb2)
      | (go_at_call 56; first
          | (refine (HN2.out _ _ _ ho3).mono ?_; rintro e w4 ⟨v4, rfl, ho4, hb4⟩; have hk4 := below_chain hk3 hk3.size hb4)
          | (refine (HN1.out _ _ _ ho2).mono ?_; rintro e w3 ⟨v3, rfl, ho3, hb3⟩; have hk3 := below_chain hk2 hk2.size hb3))))
  all_goals
    clear HLq HB1 HN1 HN2 ho3 ho2 ho1
    have hkE := Below.drew hk4
    have hoE : Own w4.drew _ v4 L3 := ho4
    obtain ⟨A4, c4, rfl⟩ := ho4.form
    generalize L3.length = n4 at *
    go_wp2_with fail
    go_region_held_law (fun Z => Z.cell? ⟨g0, 0, none⟩ = some (.int .u64 (q.a : Int)) ∧ Z.cell? ⟨g0, 1, none⟩ = some (.int .u64 (q.b : Int)) ∧ Z.cell? ⟨g0, 2, none⟩ = some (.int .u64 (q.c : Int)) ∧ Z.cell? ⟨g0, 3, none⟩ = some (.int .u64 (q.d : Int)) ∧ Z.cell? ⟨g0, 4, none⟩ = some (.int .u64 (wn : Int)) ∧ Z.cell? ⟨g0, 5, none⟩ = some (.int .u64 (sn : Int)) ∧ Z.cell? ⟨g0, 6, none⟩ = some (.int .u64 (u.a : Int)) ∧ Z.cell? ⟨g0, 7, none⟩ = some (.int .u64 (u.b : Int)) ∧ Z.cell? ⟨g0, 8, none⟩ = some (.int .u64 (u.c : Int)) ∧ Z.cell? ⟨g0, 9, none⟩ = some (.int .u64 (u.d : Int)))
      (with_reducible first | exact HC.out _ hkF | exact HC.out _ (Kept.of_below hk6) | exact HC.out _ (Kept.of_below hk5) | exact HC.out _ (Kept.of_below hkE))
      ((first
        | (go_at_call 111; refine (HK.out _).mono ?_; rintro e w9 ⟨rfl, rfl⟩)
        | (go_at_call 108; refine (HLu.out _).mono ?_; rintro e w5 ⟨v5, rfl, ho5, hb5⟩; have hk5 := below_chain hkE hkE.size hb5)
        | (go_at_call 107; refine (HB2.out _ _ _ _ _ (Own.below hoE hb5) ho5).mono ?_; rintro e w6 ⟨v6, rfl, ho6, hb6⟩; have hk6 := below_chain hk5 hk5.size hb6)
        | (go_at_call 52; refine (HS.out _ _ _ hk6 ho6).mono ?_; rintro e w7 ⟨⟨c7, rfl⟩, AS, hkS⟩; have hkF := (Kept.of_below hk6).trans hkS)))
    all_goals
      have hfin := hkW.trans hkF
      go_wp2_with fail
      go_end0
      exact ⟨rfl, AS, hfin⟩
end Go.Proofs.YtlkkjnacolmmpaaGreatDoor
