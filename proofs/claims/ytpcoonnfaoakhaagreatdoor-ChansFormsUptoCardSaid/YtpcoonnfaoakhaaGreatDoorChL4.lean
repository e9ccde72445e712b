/- The law: ports, orders and versions are taken, over an open connection, just where the document takes them; the bytes of any channel are its. -/
import Derived.Test.YtpcoonnfaoakhaaGreatDoorM23
import Derived.Test.YtpcoonnfaoakhaaGreatDoorM24
namespace Go.Proofs.YtpcoonnfaoakhaaGreatDoor
set_option maxRecDepth 100000
open Go Go.RowKit
set_option linter.unusedVariables false

theorem chShow_no {R : List Pr} {id : ByteArray} {c : ChV} {st ht now : Nat} {p : Pf} (h0 : openE R c.cn = 0) (ha : aliveE R (openV R c.cn).cl ≠ 0) : chShowE R id c st ht now p = aliveE R (openV R c.cn).cl := by
  unfold chShowE verifyE
  rw [if_pos h0, show_no ha]
  exact if_neg ha
set_option maxHeartbeats 8000000 in
/-- a channel that is tried over an open connection, by a client that shows nothing -/
theorem chtry_no {W w : World} {y : Lyr} {l : List Lyr} {R : List Pr} {k : Nat} (h : At W y l R k w) (st : Nat) (od : Bool) (po cp cn cc ve : ByteArray) (h_po : po.size ≤ 1048576) (h_cp : cp.size ≤ 1048576) (h_cn : cn.size ≤ 1048576) (h_cc : cc.size ≤ 1048576) (h_ve : ve.size ≤ 1048576) (ht now : Nat) (h_ht : ht < 18446744073709551616) (h_now : now < 18446744073709551616)
    (n : Int) (A : Option Addr) (m c : Nat) (p : Pf) (hp : ∀ Z, Below w.heap.size w Z → ProofV Z Z.heap.size (.agg #[.int .i64 n, .slice A m c]) p)
    (fr : TypeId × Nat × Nat) (hk : w.heap[0]? = some (.cells kVals fr.1 fr.2)) (hO0 : openE R cn = 0) (hal : aliveE R (openV R cn).cl ≠ 0) :
    Calls Tryz.prog 30 #[.pointer (some ⟨y.b, 0, none⟩), .agg #[.int .u64 (st : Int), .bool od, .string po, .string cp, .string cn, .string cc, .string ve], .int .u64 (ht : Int), .agg #[.int .i64 n, .slice A m c], .int .u64 (now : Int)] w fun e w' => e = .returned (.tuple #[.string ⟨#[]⟩, .int .i64 (if formM cp po od ve = 0 then (if identB cc = true then aliveE R (openV R cn).cl else 40) else formM cp po od ve)]) ∧ Below w.heap.size w w' := by
  have hb1 : Below w.heap.size w (w.alloc (.cells #[.int .u64 (st : Int), .bool od, .string po, .string cp, .string cn, .string cc, .string ve] 59)) := (Below.refl _ _).alloc (Nat.le_refl _) _
  have ha0 := hb1.alloc hb1.size (.cells #[.int .i64 n, .slice A m c] 69)
  have q1 := heap_alloc_new w (.cells #[.int .u64 (st : Int), .bool od, .string po, .string cp, .string cn, .string cc, .string ve] 59)
  have q2 := heap_alloc_new (w.alloc (.cells #[.int .u64 (st : Int), .bool od, .string po, .string cp, .string cn, .string cc, .string ve] 59)) (.cells #[.int .i64 n, .slice A m c] 69)
  replace q1 := (Below.heap_alloc (w.alloc (.cells #[.int .u64 (st : Int), .bool od, .string po, .string cp, .string cn, .string cc, .string ve] 59)) (.cells #[.int .i64 n, .slice A m c] 69) _ (blk_lt q1)).trans q1
  rw [show (w.alloc (.cells #[.int .u64 (st : Int), .bool od, .string po, .string cp, .string cn, .string cc, .string ve] 59)).heap.size = w.heap.size + 1 by simp] at q2
  clear hb1
  generalize hW1 : (w.alloc (.cells #[.int .u64 (st : Int), .bool od, .string po, .string cp, .string cn, .string cc, .string ve] 59)).alloc (.cells #[.int .i64 n, .slice A m c] 69) = W1 at *
  have p1 := q1
  have p2 := q2
  have ha1 := ha0
  have HUP := Lib.hid (fun (Z : World) (hz : Below W1.heap.size W1 Z) => h.up (below_chain ha1 ha1.size hz))
  have hO := chopen_any (HUP.out _ (Below.refl _ _)) cn (by omega)
  obtain ⟨V, hV⟩ : ∃ v, v = openV R cn := ⟨_, rfl⟩
  rw [hO0, ← hV] at hO
  rw [← hV] at hal ⊢
  have HSH : Hid (∀ Z, Below W1.heap.size W1 Z → Calls Tryz.prog 93 #[.pointer (some ⟨y.b, 0, none⟩), .string ⟨#[]⟩, .agg #[.int .u64 (st : Int), .bool od, .string po, .string cp, .string cn, .string cc, .string ve], .int .u64 1, .int .u64 (ht : Int), .agg #[.int .i64 n, .slice A m c], .int .u64 (now : Int)] Z fun e w' => e = .returned (.int .i64 (aliveE R V.cl)) ∧ Below Z.heap.size Z w') := Lib.hid fun Z hz => by
    have hz0 := below_chain ha1 ha1.size hz
    have := chshown_any (HUP.out Z hz) ⟨#[]⟩ (by decide) st 1 od po cp cn cc ve (by decide) h_po h_cp h_cn h_cc h_ve ht now h_ht h_now n A m c p (fun Z2 hz2 => hp Z2 (below_chain hz0 hz0.size hz2)) fr ((hz0.block _ (blk_lt hk)).trans hk)
    rw [chShow_no (R := R) (id := ⟨#[]⟩) (c := ⟨st, od, po, cp, cn, cc, ve⟩) (st := 1) (ht := ht) (now := now) (p := p) hO0 (by show aliveE R (openV R cn).cl ≠ 0; rw [← hV]; exact hal)] at this
    dsimp only at this
    rw [← hV] at this
    exact this
  have HF : Hid (∀ Z : World, Calls Tryz.prog 88 #[.string cp, .string po, .bool od, .string ve] Z fun e w' => e = .returned (.int .i64 (formM cp po od ve)) ∧ Below Z.heap.size Z w') := Lib.hid fun Z => (form_any cp po od ve Z (by omega)).mono fun e w' ⟨h1, h2⟩ => ⟨h1, by rw [← h2]; exact Below.refl _ _⟩
  have HI : Hid (∀ Z : World, Calls Tryz.prog 59 #[.string cc] Z fun e w' => e = .returned (.bool (identB cc)) ∧ Z = w') := Lib.hid fun Z => ident_any cc Z (by unfold maxLen; omega)
  have HAL := Lib.hid hal
  generalize aliveE R V.cl = E at *
  obtain ⟨vst, vcl, vcc, vct⟩ := V
  unfold CnV.val at hO
  dsimp only at hO
  have HO := Lib.hid hO
  have HW : Hid (∀ Z, Below W1.heap.size W1 Z → Below w.heap.size w Z) := Lib.hid fun Z hz => below_chain ha1 ha1.size hz
  generalize hgg : w.heap.size = g0 at *
  have HC : Hid (∀ Z, Below W1.heap.size W1 Z → Z.cell? ⟨g0, 0, none⟩ = some (.int .u64 (st : Int)) ∧ Z.cell? ⟨g0, 1, none⟩ = some (.bool od) ∧ Z.cell? ⟨g0, 2, none⟩ = some (.string po) ∧ Z.cell? ⟨g0, 3, none⟩ = some (.string cp) ∧ Z.cell? ⟨g0, 4, none⟩ = some (.string cn) ∧ Z.cell? ⟨g0, 5, none⟩ = some (.string cc) ∧ Z.cell? ⟨g0, 6, none⟩ = some (.string ve) ∧ Z.cell? ⟨g0 + 1, 0, none⟩ = some (.int .i64 n) ∧ Z.cell? ⟨g0 + 1, 1, none⟩ = some (.slice A m c)) := Lib.hid fun Z hz => by
    have e1 := (hz.block _ (blk_lt p1)).trans p1
    have e2 := (hz.block _ (blk_lt p2)).trans p2
    exact ⟨blk_cell e1 0, blk_cell e1 1, blk_cell e1 2, blk_cell e1 3, blk_cell e1 4, blk_cell e1 5, blk_cell e1 6, blk_cell e2 0, blk_cell e2 1⟩
  generalize formM cp po od ve = F at *
  generalize identB cc = bi at *
  have HW1 := Lib.hid hW1
  obtain ⟨EE, hEE⟩ : ∃ x, x = (if F = 0 then (if bi = true then E else 40) else F) := ⟨_, rfl⟩
  rw [← hEE]
  have HEE := Lib.hid hEE
  clear hEE
  have HGG := Lib.hid hgg
  clear hgg
  clear hp hk h_ht h_now h h_po h_cp h_cn h_cc h_ve hO hV hal hO0 p1 p2 q1 q2 ha0 ha1 hW1
  go_enter Tryz.func30, Tryz.ntmps30
  go_wp2_with fail
  rw [HW1.out]
  rw [HGG.out]
  refine HO.out.mono ?_
  rintro e w1 ⟨rfl, hb1⟩
  have hb2 := hb1.alloc hb1.size (.cells #[.int .u64 (vst : Int), .string vcl, .string vcc, .string vct] 62)
  clear HW1 hb1 HO
  obtain ⟨d0, d1, d2, d3, d4, d5, d6, d7, d8⟩ := HC.out _ hb2
  go_wp2_with fail
  generalize w1.alloc (.cells #[.int .u64 (vst : Int), .string vcl, .string vcc, .string vct] 62) = w2 at *
  refine (HF.out _).mono ?_
  rintro e w3 ⟨rfl, hb3⟩
  have hq3 := below_chain hb2 hb2.size hb3
  clear d0 d1 d2 d3 d4 d5 d6 d7 d8 hb2 hb3 HF
  rcases Classical.em (F = 0) with hF0 | hF
  rotate_left
  · have he : (F != 0) = true := by simpa using hF
    replace HEE : Hid (EE = F) := Lib.hid (by rw [HEE.out, if_neg hF])
    have hfin := HW.out _ hq3
    clear hF HC HW HSH HI
    go_wp2_with fail
    go_ret2
    rw [HEE.out]
    exact ⟨rfl, hfin⟩
  replace HEE : Hid (EE = if bi = true then E else 40) := Lib.hid (by rw [HEE.out, if_pos hF0])
  subst hF0
  obtain ⟨d0, d1, d2, d3, d4, d5, d6, d7, d8⟩ := HC.out _ hq3
  go_wp2_with fail
  refine (HI.out _).mono ?_
  rintro e w4 ⟨rfl, rfl⟩
  cases bi with
  | false =>
    have hfin := HW.out _ hq3
    clear HC HW HSH HI d0 d1 d2 d3 d4 d5 d6 d7 d8
    go_wp2_with fail
    go_ret2
    rw [show EE = 40 from HEE.out]
    exact ⟨rfl, hfin⟩
  | true =>
    have HS3 := Lib.hid (HSH.out _ hq3)
    have he : (E != 0) = true := by simpa using HAL.out
    clear HSH HI HAL
    go_wp2_with fail
    refine HS3.out.mono ?_
    rintro e w5 ⟨rfl, hb5⟩
    have hfin := HW.out _ (below_chain hq3 hq3.size hb5)
    clear HC HW HS3 d0 d1 d2 d3 d4 d5 d6 d7 d8
    go_wp2_with fail
    go_ret2
    rw [show EE = E from HEE.out]
    exact ⟨rfl, hfin⟩

/-! ### the store that the law makes -/
def frmCn : CnV := ⟨3, ⟨#[]⟩, ⟨#[]⟩, ⟨#[]⟩⟩
def frmR : List Pr := [(kConn sConn0, cnB frmCn)]
theorem frm1 : getCn frmR sConn0 = some frmCn := by kernel_rfl
theorem frm2 : numN frmR sChan < 10 := by decide +kernel
theorem frm3 : newID frmR sChan = sChan0 := by decide +kernel
theorem frm4 : ∀ p ∈ frmR, p.1.size ≤ maxLen := by decide +kernel
theorem frm5 : ∀ p ∈ frmR, p.2.length ≤ 2000000 := by decide +kernel
theorem frm6 : openE frmR sConn0 = 0 := by decide +kernel
theorem kne1 : kConn sConn0 ≠ ackedP ++ sChan0 := by decide +kernel
theorem kne2 : kConn sConn0 ≠ recvP ++ sChan0 := by decide +kernel
theorem kne3 : kConn sConn0 ≠ nextP ++ sChan0 := by decide +kernel
theorem kne4 : kConn sConn0 ≠ kChn sChan0 := by decide +kernel
theorem kne5 : kConn sConn0 ≠ kNum sChan := by decide +kernel
theorem alive_none (R : List Pr) : aliveE R ⟨#[]⟩ = 100 := by
  unfold aliveE getCl
  rw [if_neg (by decide +kernel)]
theorem frm_get (po cp : ByteArray) (od : Bool) (ve : ByteArray) : getCn (beginR frmR sConn0 po cp od ve) sConn0 = some frmCn := by
  unfold beginR
  split
  · unfold madeCh newR
    rw [frm3]
    unfold getCn
    rw [getL_setL_ne _ _ _ _ kne1, getL_setL_ne _ _ _ _ kne2, getL_setL_ne _ _ _ _ kne3, getL_setL_ne _ _ _ _ kne4, getL_setL_ne _ _ _ _ kne5]
    exact frm1
  · exact frm1
theorem frm_open {R : List Pr} {via : ByteArray} (h : getCn R via = some frmCn) : openE R via = 0 ∧ openV R via = frmCn := by
  have h1 : openE R via = 0 := by unfold openE; rw [h]; rfl
  exact ⟨h1, by unfold openV; rw [if_pos h1, h]; rfl⟩
section
variable {B : Nat} {y : Lyr} {b k m : Nat} {Rp Rd : List Pr} {W W' : World}
theorem Two.bankN (h : Two B y b Rp Rd k W) {R' : List Pr} {n : Nat} {f : LF} {W2 : World} (hn : n ≤ y.n + k) (hp : PileS W [⟨y.b, y.m, n, f⟩]) (hq : BankS W ⟨y.b, y.m, n, f⟩ [] R' m W2) : Two B y b R' Rd (k + m) W2 ∧ Chg W W2 (FT y b) := by
  obtain ⟨n', f', g1, g2, g3, g4⟩ := hq
  dsimp only at g1 g2 g3 g4
  have hk : Kept W W2 := ⟨_, g4, hp.1.maps⟩
  exact ⟨⟨⟨n', f', g1, g2, by omega⟩, h.d.kept hk, by have := h.n; omega, h.v, h.hy, h.hb, Nat.le_trans h.hW g4.size⟩, g4.mono fun _ _ e => Or.inl e⟩
theorem Two.docN (h : Two B y b Rp Rd k W) {R' : List Pr} {W2 : World} (hq : Doc W b R' (y.n + k + m) W2) : Two B y b Rp R' (k + m) W2 ∧ Chg W W2 (FT y b) := by
  obtain ⟨n, f, h1, h2, h3⟩ := h.p
  exact ⟨⟨⟨n, f, h1.chgB h.d hq.c, h2, by omega⟩, hq.s, by have := hq.n; omega, hq.v, h.hy, h.hb, Nat.le_trans h.hW hq.c.size⟩, hq.c.mono fun _ _ e => Or.inr e⟩
theorem Two.chbegin (h : Two B y b Rp Rd k W) (hn : y.n + k + 5 ≤ 100000000) (hs : numN Rp sChan < 10) (via po cp : ByteArray) (od : Bool) (ve : ByteArray) (h_via : via.size ≤ 100000000) (h_po : po.size ≤ 100000000) (h_cp : cp.size ≤ 100000000) (h_ve : ve.size ≤ 100000000) :
    Calls Tryz.prog 28 #[.pointer (some ⟨y.b, 0, none⟩), .string via, .string po, .string cp, .bool od, .string ve] W fun e w' => e = .returned (.tuple #[.string (beginI Rp via po cp od ve), .int .i64 (beginE Rp via po cp od ve)]) ∧ Two B y b (beginR Rp via po cp od ve) Rd (k + 5) w' ∧ Chg W w' (FT y b) := by
  obtain ⟨n, f, h3, h1, A⟩ := h.at0
  refine (chbegin_any A (show n + 0 + 5 ≤ maxLen by unfold maxLen; omega) hs via po cp od ve h_via h_po h_cp h_ve).mono ?_
  rintro e w' ⟨he, hq, -⟩
  exact ⟨he, h.bankN h3 h1 (hq.more (show 0 + 5 ≤ 5 by omega)).b⟩
theorem Two.rchbegin (h : Two B y b Rp Rd k W) (hn : y.n + k + 5 ≤ 100000000) (hs : numN Rd sChan < 10) (via po cp : ByteArray) (od : Bool) (ve : ByteArray) (h_via : via.size ≤ 100000000) (h_po : po.size ≤ 100000000) (h_cp : cp.size ≤ 100000000) (h_ve : ve.size ≤ 100000000) (hO0 : openE Rd via = 0) :
    Calls Tryz.prog 29 #[.pointer (some ⟨b, 0, none⟩), .string via, .string po, .string cp, .bool od, .string ve] W fun e w' => e = .returned (.tuple #[.string (beginI Rd via po cp od ve), .int .i64 (beginE Rd via po cp od ve)]) ∧ Two B y b Rp (beginR Rd via po cp od ve) (k + 5) w' ∧ Chg W w' (FT y b) := by
  refine (rBegin16_yes h.doc (by omega) (by rw [decB_size _ hs]; decide) via po cp od ve h_via h_po h_cp h_ve hO0).mono ?_
  rintro e w' ⟨he, hq, -⟩
  exact ⟨he, h.docN hq⟩
end
set_option maxHeartbeats 16000000 in
theorem chforms_law (w : World) (st : Nat) (h_st : st < 18446744073709551616) (od : Bool) (po cp cn cc ve : ByteArray) (h_po : po.size ≤ 1048576) (h_cp : cp.size ≤ 1048576) (h_cn : cn.size ≤ 1048576) (h_cc : cc.size ≤ 1048576) (h_ve : ve.size ≤ 1048576)
    (fr : TypeId × Nat × Nat) (hk : w.heap[0]? = some (.cells kVals fr.1 fr.2)) :
    Calls Tryz.prog 6 #[.agg #[.int .u64 (st : Int), .bool od, .string po, .string cp, .string cn, .string cc, .string ve]] w fun e w' => e = .returned (.bool true) ∧ Below w.heap.size w w' := by
  have hbox := heap_alloc_new w (.cells #[.int .u64 (st : Int), .bool od, .string po, .string cp, .string cn, .string cc, .string ve] 59)
  have ha0 : Below w.heap.size w (w.alloc (.cells #[.int .u64 (st : Int), .bool od, .string po, .string cp, .string cn, .string cc, .string ve] 59)) := (Below.refl _ _).alloc (Nat.le_refl _) _
  have hk0 := (ha0.block _ (blk_lt hk)).trans hk
  generalize hW0 : w.alloc (.cells #[.int .u64 (st : Int), .bool od, .string po, .string cp, .string cn, .string cc, .string ve] 59) = W0 at *
  have HFIN := Lib.hid (fun (Z : World) (hz : Below W0.heap.size W0 Z) => below_chain ha0 ha0.size hz)
  generalize hgg : w.heap.size = g0 at *
  have HC : Hid (∀ Z, Below W0.heap.size W0 Z → Z.cell? ⟨g0, 0, none⟩ = some (.int .u64 (st : Int)) ∧ Z.cell? ⟨g0, 1, none⟩ = some (.bool od) ∧ Z.cell? ⟨g0, 2, none⟩ = some (.string po) ∧ Z.cell? ⟨g0, 3, none⟩ = some (.string cp) ∧ Z.cell? ⟨g0, 4, none⟩ = some (.string cn) ∧ Z.cell? ⟨g0, 5, none⟩ = some (.string cc) ∧ Z.cell? ⟨g0, 6, none⟩ = some (.string ve)) := Lib.hid fun Z hz => by
    have e := (hz.block _ (blk_lt hbox)).trans hbox
    exact ⟨blk_cell e 0, blk_cell e 1, blk_cell e 2, blk_cell e 3, blk_cell e 4, blk_cell e 5, blk_cell e 6⟩
  have HKT := Lib.hid (fun (Z : World) (hz : Below W0.heap.size W0 Z) => (hz.block _ (blk_lt hk0)).trans hk0)
  have HSZ := Lib.hid (And.intro h_po (And.intro h_cp (And.intro h_cn (And.intro h_cc (And.intro h_ve h_st)))))
  have HCB := Lib.hid (cnbytes_any frmCn W0 (by show 3 < _; decide) (by decide +kernel) (by decide +kernel) (by decide +kernel))
  unfold CnV.val at HCB
  unfold frmCn at HCB
  dsimp only at HCB
  have HGET := Lib.hid (frm_get po cp od ve)
  clear hbox hk hk0 ha0 h_po h_cp h_cn h_cc h_ve h_st
  go_enter Tryz.func6, Tryz.ntmps6
  go_wp2_with fail
  try rw [hW0]
  clear hW0
  try rw [hgg]
  refine HCB.out.mono ?_
  rintro e w1 ⟨v1, rfl, ho1, hb1⟩
  replace ho1 : Own w1 W0.heap.size v1 (cnB frmCn) := ho1
  have HR0 : Hid (RdP (w1.alloc (.cells #[.string (kConn sConn0), v1] 48)) (w1.alloc (.cells #[.string (kConn sConn0), v1] 48)).heap.size (.slice (some ⟨w1.heap.size, 0, none⟩) 1 1) frmR) := Lib.hid (rdp_one w1 (kConn sConn0) v1 _ ho1.rd)
  have hb2 := hb1.alloc hb1.size (.cells #[.string (kConn sConn0), v1] 48)
  rw [fixKey] at HR0 hb2
  obtain ⟨A1, c1, rfl⟩ := ho1.form
  generalize (cnB frmCn).length = n1 at *
  clear HCB ho1 hb1
  go_wp2_with fail
  generalize hz1 : w1.alloc (.cells #[.string ⟨#[105, 98, 99, 47, 99, 111, 110, 110, 47, 99, 111, 110, 110, 45, 48]⟩, .slice A1 n1 c1] 48) = z1 at *
  have HN := Lib.hid (new_any z1 _ frmR HR0.out frm4)
  have HD := Lib.hid (fun (Z : World) (hz : Below z1.heap.size z1 Z) => rnew_doc Z _ frmR (HR0.out.kept (Kept.of_below hz)) frm4 frm5 (by decide))
  generalize w1.heap.size = q1 at *
  clear hz1 HR0
  refine HN.out.mono ?_
  rintro e w2 ⟨⟨h, -⟩ | ⟨-, y, rfl, hyb, hym, hyn, hly, hri, hp1⟩, hb3⟩
  · exact absurd h (by decide +kernel)
  obtain ⟨yb, ym, yn, yf⟩ := y
  dsimp only at hyb hym hyn ⊢
  have hyn1 : yn = 1 := hyn
  have HY := Lib.hid (And.intro hp1 (And.intro hly (And.intro hri hyn1)))
  have HYM := Lib.hid (And.intro hym (And.intro hb2 hb3))
  clear hyb hym hyn hly hri hp1 HN hyn1
  go_wp2_with fail
  refine (HD.out _ hb3).mono ?_
  rintro e w3 ⟨⟨h, -⟩ | ⟨-, b, rfl, hbb, hds⟩, hb4⟩
  · exact absurd h (by decide +kernel)
  have hq2 := below_chain hb2 hb2.size hb3
  have hq3 := below_chain hq2 hq2.size hb4
  have T3 : Two W0.heap.size ⟨yb, ym, yn, yf⟩ b frmR frmR 0 w3 := ⟨⟨yn, yf, HY.out.1.up hb4, seen_bot0 HY.out.2.1 HY.out.2.2.1 frm4, Nat.le_refl _⟩, hds, Nat.le_of_eq HY.out.2.2.2.symm, frm5, Nat.le_trans HYM.out.2.1.size HYM.out.1, Nat.le_trans hq2.size hbb, Nat.le_trans hq2.size hb4.size⟩
  have HYN := Lib.hid HY.out.2.2.2
  clear hb2 hb3 hb4 hq2 HD HYM HY hbb hds
  go_wp2_with fail
  refine (chfixed_any _).mono ?_
  rintro e w4 ⟨rfl, hb5⟩
  have T4 := T3.up hb5
  have hq4 := below_chain hq3 hq3.size hb5
  obtain ⟨c0, c1', c2, c3, c4, c5, c6⟩ := HC.out _ hq4
  have HG1 : Hid (Calls Tryz.prog 28 #[.pointer (some ⟨yb, 0, none⟩), .string ⟨#[99, 111, 110, 110, 45, 48]⟩, .string po, .string cp, .bool od, .string ve] w4 fun e w' => e = .returned (.tuple #[.string (beginI frmR sConn0 po cp od ve), .int .i64 (beginE frmR sConn0 po cp od ve)]) ∧ Two W0.heap.size ⟨yb, ym, yn, yf⟩ b (beginR frmR sConn0 po cp od ve) frmR 5 w' ∧ Chg w4 w' (FT ⟨yb, ym, yn, yf⟩ b)) :=
    Lib.hid (T4.chbegin (show yn + 0 + 5 ≤ 100000000 by have := HYN.out; omega) frm2 sConn0 po cp od ve (by decide +kernel) (by have := HSZ.out.1; omega) (by have := HSZ.out.2.1; omega) (by have := HSZ.out.2.2.2.2.1; omega))
  have HG2 : Hid (∀ Z, Two W0.heap.size ⟨yb, ym, yn, yf⟩ b (beginR frmR sConn0 po cp od ve) frmR 5 Z → Calls Tryz.prog 29 #[.pointer (some ⟨b, 0, none⟩), .string ⟨#[99, 111, 110, 110, 45, 48]⟩, .string po, .string cp, .bool od, .string ve] Z fun e w' => e = .returned (.tuple #[.string (beginI frmR sConn0 po cp od ve), .int .i64 (beginE frmR sConn0 po cp od ve)]) ∧ Two W0.heap.size ⟨yb, ym, yn, yf⟩ b (beginR frmR sConn0 po cp od ve) (beginR frmR sConn0 po cp od ve) 10 w' ∧ Chg Z w' (FT ⟨yb, ym, yn, yf⟩ b)) :=
    Lib.hid fun Z hz => hz.rchbegin (show yn + 5 + 5 ≤ 100000000 by have := HYN.out; omega) frm2 sConn0 po cp od ve (by decide +kernel) (by have := HSZ.out.1; omega) (by have := HSZ.out.2.1; omega) (by have := HSZ.out.2.2.2.2.1; omega) frm6
  generalize beginI frmR sConn0 po cp od ve = I1 at *
  generalize beginE frmR sConn0 po cp od ve = E1 at *
  generalize beginR frmR sConn0 po cp od ve = R1 at *
  have HT4 := Lib.hid T4
  clear T3 T4 hb5 hq3
  go_wp2_with fail
  refine HG1.out.mono ?_
  rintro e w5 ⟨rfl, T5, hc5⟩
  have hq5 := hq4.trans (HT4.out.below hc5)
  have HG5 := Lib.hid (HG2.out _ T5)
  have HT5 := Lib.hid T5
  clear c0 c1' c2 c3 c4 c5 c6 HG1 HG2 T5 hc5 HT4 hq4
  obtain ⟨c0, c1', c2, c3, c4, c5, c6⟩ := HC.out _ hq5
  go_wp2_with fail
  refine HG5.out.mono ?_
  rintro e w6 ⟨rfl, T6, hc6⟩
  have hq6 := hq5.trans (HT5.out.below hc6)
  clear c0 c1' c2 c3 c4 c5 c6 HG5 HT5 hc6 hq5
  obtain ⟨c0, c1', c2, c3, c4, c5, c6⟩ := HC.out _ hq6
  have hb7 : Below w6.heap.size w6 (w6.alloc (.cells #[.int .u64 (st : Int), .bool od, .string po, .string cp, .string ⟨#[99, 111, 110, 110, 45, 48]⟩, .string cc, .string ve] 59)) := (Below.refl _ _).alloc (Nat.le_refl _) _
  have hbx := heap_alloc_new w6 (.cells #[.int .u64 (st : Int), .bool od, .string po, .string cp, .string ⟨#[99, 111, 110, 110, 45, 48]⟩, .string cc, .string ve] 59)
  have T7 := T6.up hb7
  have hq7 := below_chain hq6 hq6.size hb7
  have HBX : Hid (∀ Z, Below (w6.alloc (.cells #[.int .u64 (st : Int), .bool od, .string po, .string cp, .string ⟨#[99, 111, 110, 110, 45, 48]⟩, .string cc, .string ve] 59)).heap.size (w6.alloc (.cells #[.int .u64 (st : Int), .bool od, .string po, .string cp, .string ⟨#[99, 111, 110, 110, 45, 48]⟩, .string cc, .string ve] 59)) Z → Z.cell? ⟨w6.heap.size, 0, none⟩ = some (.int .u64 (st : Int)) ∧ Z.cell? ⟨w6.heap.size, 1, none⟩ = some (.bool od) ∧ Z.cell? ⟨w6.heap.size, 2, none⟩ = some (.string po) ∧ Z.cell? ⟨w6.heap.size, 3, none⟩ = some (.string cp) ∧ Z.cell? ⟨w6.heap.size, 4, none⟩ = some (.string ⟨#[99, 111, 110, 110, 45, 48]⟩) ∧ Z.cell? ⟨w6.heap.size, 5, none⟩ = some (.string cc) ∧ Z.cell? ⟨w6.heap.size, 6, none⟩ = some (.string ve)) := Lib.hid fun Z hz => by
    have e := (hz.block _ (blk_lt hbx)).trans hbx
    exact ⟨blk_cell e 0, blk_cell e 1, blk_cell e 2, blk_cell e 3, blk_cell e 4, blk_cell e 5, blk_cell e 6⟩
  have HT7 := Lib.hid T7
  clear T6 hb7 hbx hq6 T7
  go_wp2_with fail
  generalize hw7 : w6.alloc (.cells #[.int .u64 (st : Int), .bool od, .string po, .string cp, .string ⟨#[99, 111, 110, 110, 45, 48]⟩, .string cc, .string ve] 59) = w7 at *
  generalize w6.heap.size = g7 at *
  have hop := frm_open HGET.out
  have hal : aliveE R1 (openV R1 sConn0).cl ≠ 0 := by rw [hop.2, show frmCn.cl = ⟨#[]⟩ from rfl, alive_none]; decide
  have hpr : ∀ Z : World, ProofV Z Z.heap.size (.agg #[.int .i64 0, .slice none 0 0]) ⟨0, []⟩ := fun Z => ⟨.slice none 0 0, rfl, ⟨none, 0, rfl, Nat.le_refl _, by decide, fun h => absurd h (by decide)⟩, by decide, by decide⟩
  have HG7 : Hid (Calls Tryz.prog 30 #[.pointer (some ⟨yb, 0, none⟩), .agg #[.int .u64 (st : Int), .bool od, .string po, .string cp, .string ⟨#[99, 111, 110, 110, 45, 48]⟩, .string cc, .string ve], .int .u64 1, .agg #[.int .i64 0, .slice none 0 0], .int .u64 1] w7 fun e w' => e = .returned (.tuple #[.string ⟨#[]⟩, .int .i64 (if formM cp po od ve = 0 then (if identB cc = true then aliveE R1 (openV R1 sConn0).cl else 40) else formM cp po od ve)]) ∧ Below w7.heap.size w7 w') := Lib.hid (by
    obtain ⟨n, f, h3, h1, A⟩ := HT7.out.at0
    exact chtry_no A st od po cp sConn0 cc ve HSZ.out.1 HSZ.out.2.1 (by decide +kernel) HSZ.out.2.2.2.1 HSZ.out.2.2.2.2.1 1 1 (by decide) (by decide) 0 none 0 0 ⟨0, []⟩ (fun Z _ => hpr Z) fr (HKT.out _ hq7) hop.1 hal)
  have HG8 : Hid (∀ Z, Below w7.heap.size w7 Z → Calls Tryz.prog 31 #[.pointer (some ⟨b, 0, none⟩), .agg #[.int .u64 (st : Int), .bool od, .string po, .string cp, .string ⟨#[99, 111, 110, 110, 45, 48]⟩, .string cc, .string ve], .int .u64 1, .agg #[.int .i64 0, .slice none 0 0], .int .u64 1] Z fun e w' => e = .returned (.tuple #[.string ⟨#[]⟩, .int .i64 (if formM cp po od ve = 0 then (if identB cc = true then aliveE R1 (openV R1 sConn0).cl else 40) else formM cp po od ve)]) ∧ Below Z.heap.size Z w') := Lib.hid fun Z hz => by
    have hd := (HT7.out.up hz).docR (show yn + 10 ≤ 100000000 by have := HYN.out; omega)
    exact rTry16_no (RGet.of hd.s hd.n hd.v) st od po cp sConn0 cc ve HSZ.out.1 HSZ.out.2.1 (by decide +kernel) HSZ.out.2.2.2.1 HSZ.out.2.2.2.2.1 1 1 0 none 0 0 hop.1 (by rw [hop.2]; decide +kernel) hal
  generalize (if formM cp po od ve = 0 then (if identB cc = true then aliveE R1 (openV R1 sConn0).cl else 40) else formM cp po od ve) = E2 at *
  clear c0 c1' c2 c3 c4 c5 c6 hop hal hpr hw7
  obtain ⟨c0, c1', c2, c3, c4, c5, c6⟩ := HBX.out _ (Below.refl _ _)
  refine HG7.out.mono ?_
  rintro e w8 ⟨rfl, hb8⟩
  have HG9 := Lib.hid (HG8.out _ hb8)
  have hq8 := below_chain hq7 hq7.size hb8
  have T8 := HT7.out.up hb8
  clear c0 c1' c2 c3 c4 c5 c6 HG7 HG8 HT7 hq7
  obtain ⟨c0, c1', c2, c3, c4, c5, c6⟩ := HBX.out _ hb8
  clear HBX hb8
  go_wp2_with fail
  refine HG9.out.mono ?_
  rintro e w9 ⟨rfl, hb9⟩
  have hq9 := below_chain hq8 hq8.size hb9
  have T9 := T8.up hb9
  clear c0 c1' c2 c3 c4 c5 c6 HG9 T8 hq8 hb9
  obtain ⟨c0, c1', c2, c3, c4, c5, c6⟩ := HC.out _ hq9
  have hii : (I1.toList == I1.toList) = true := beq_self_eq_true _
  obtain ⟨z1, z2, z3, z4, z5, z6⟩ := HSZ.out
  have HB1 : Hid (∀ Z : World, Calls Tryz.prog 32 #[.agg #[.int .u64 (st : Int), .bool od, .string po, .string cp, .string cn, .string cc, .string ve]] Z fun e w' => ∃ v', e = .returned v' ∧ Own w' Z.heap.size v' (chB ⟨st, od, po, cp, cn, cc, ve⟩) ∧ Below Z.heap.size Z w') := Lib.hid fun Z => chbytes_any ⟨st, od, po, cp, cn, cc, ve⟩ Z z6 (by show po.size ≤ _; unfold maxLen; omega) (by show cp.size ≤ _; unfold maxLen; omega) (by show cn.size ≤ _; unfold maxLen; omega) (by show cc.size ≤ _; unfold maxLen; omega) (by show ve.size ≤ _; unfold maxLen; omega)
  have HB2 : Hid (∀ Z : World, Calls Tryz.prog 33 #[.agg #[.int .u64 (st : Int), .bool od, .string po, .string cp, .string cn, .string cc, .string ve]] Z fun e w' => ∃ v', e = .returned v' ∧ Own w' Z.heap.size v' (chB ⟨st, od, po, cp, cn, cc, ve⟩) ∧ Below Z.heap.size Z w') := Lib.hid fun Z => rchbytes_any ⟨st, od, po, cp, cn, cc, ve⟩ Z z6 (by show po.size ≤ _; unfold maxLen; omega) (by show cp.size ≤ _; unfold maxLen; omega) (by show cn.size ≤ _; unfold maxLen; omega) (by show cc.size ≤ _; unfold maxLen; omega) (by show ve.size ≤ _; unfold maxLen; omega)
  have hbw : ∀ {f : FuncId} {a : Array Value} {s : ByteArray}, (∀ Z : World, Calls Tryz.prog f a Z fun e w' => e = .returned (.string s) ∧ Z = w') → ∀ Z : World, Calls Tryz.prog f a Z fun e w' => e = .returned (.string s) ∧ Below Z.heap.size Z w' := fun h Z => (h Z).mono fun e w' ⟨h1, h2⟩ => ⟨h1, by rw [← h2]; exact Below.refl _ _⟩
  have HK1 := Lib.hid (hbw fun Z : World => chkey_any cn Z (by omega))
  have HK2 := Lib.hid (hbw fun Z : World => rchkey_any cn Z (by omega))
  have HK3 := Lib.hid (hbw fun Z : World => chnext_any cn Z (by omega))
  have HK4 := Lib.hid (hbw fun Z : World => rchnext_any cn Z (by omega))
  have HK5 := Lib.hid (hbw fun Z : World => chrecv_any cn Z (by omega))
  have HK6 := Lib.hid (hbw fun Z : World => rchrecv_any cn Z (by omega))
  have HK7 := Lib.hid (hbw fun Z : World => chacked_any cn Z (by omega))
  have HK8 := Lib.hid (hbw fun Z : World => rchacked_any cn Z (by omega))
  have hcs : ∀ (L : List UInt8), ∃ S : ByteArray, ∀ (Z : World) (v : Value), Rd Z Z.heap.size v L → (convert 27 9 v).run Tryz.prog Z = .ok (.string S) Z := fun L => ⟨⟨L.toArray⟩, fun Z v h => run_str Tryz.underlying27 Tryz.underlying5 Tryz.isString h⟩
  obtain ⟨S1, hcl⟩ := hcs (chB ⟨st, od, po, cp, cn, cc, ve⟩)
  have HCS := Lib.hid hcl
  have hs1 : (S1.toList == S1.toList) = true := beq_self_eq_true _
  have HPA : Hid (∀ Z, Below w9.heap.size w9 Z → Calls Tryz.prog 15 #[.pointer (some ⟨yb, 0, none⟩), .string ⟨#[]⟩] Z fun e w' => ∃ v, e = .returned v ∧ RdP w' w'.heap.size v R1 ∧ Below Z.heap.size Z w') := Lib.hid fun Z hz => by
    obtain ⟨m, f, hm, hri, hA⟩ := (T9.up hz).acc
    have := hA.pairs (show m + 0 ≤ 1000000000 by have : m ≤ yn + 10 := hm; have := HYN.out; omega) ⟨#[]⟩ (by decide +kernel)
    rw [filter_all] at this
    exact this.mono fun e w' ⟨v, h1, h2, h3⟩ => ⟨v, h1, h2.rdP, h3⟩
  have hsm : ∀ p ∈ R1, p.1.size ≤ maxLen := by obtain ⟨_, _, _, h2, _⟩ := T9.p; exact h2.small
  have HPB : Hid (∀ Z, Below w9.heap.size w9 Z → Calls Tryz.prog 25 #[.pointer (some ⟨b, 0, none⟩), .string ⟨#[]⟩] Z fun e w' => ∃ v, e = .returned v ∧ RdP w' w'.heap.size v R1 ∧ Below Z.heap.size Z w') := Lib.hid fun Z hz => by
    have := rpairs_any ((T9.docR (show yn + 10 ≤ 100000000 by have := HYN.out; omega)).up hz) ⟨#[]⟩ (by decide +kernel) hsm
    rw [filter_all] at this
    exact this
  have HSM : Hid (∀ (Z : World) (u v : Value), RdP Z Z.heap.size u R1 → RdP Z Z.heap.size v R1 → Calls Tryz.prog 14 #[u, v] Z fun e w' => e = .returned (.bool true) ∧ Below Z.heap.size Z w') := Lib.hid fun Z u v h1 h2 => by
    have := samePs_any Z u v R1 R1 h1 h2
    simp only [decide_true] at this
    exact this
  have HC9 := Lib.hid (fun (Z : World) (hz : Below w9.heap.size w9 Z) => HC.out Z (below_chain hq9 hq9.size hz))
  generalize chB ⟨st, od, po, cp, cn, cc, ve⟩ = L1 at *
  generalize kChn cn = k1 at *
  generalize nextP ++ cn = k2 at *
  generalize recvP ++ cn = k3 at *
  generalize ackedP ++ cn = k4 at *
  have e1 : (k1.toList == k1.toList) = true := beq_self_eq_true _
  have e2 : (k2.toList == k2.toList) = true := beq_self_eq_true _
  have e3 : (k3.toList == k3.toList) = true := beq_self_eq_true _
  have e4 : (k4.toList == k4.toList) = true := beq_self_eq_true _
  clear z1 z2 z3 z4 z5 z6 HSZ HGET HKT T9 hcs hcl hbw hsm HC c0 c1' c2 c3 c4 c5 c6
  have hbd : Below w9.heap.size w9 w9.drew := Below.drew (Below.refl _ _)
  go_wp2_with fail
  dsimp only [List.append]
  refine wp_region_held_drew (S := BelS w9.drew) (by kernel_rfl) (BelS.refl _) (fun hS0 => ?_)
  refine wpAnyH_take (i := 0) (oi := _) (v := ?_) rfl (by kernel_rfl) (by kernel_rfl) (by kernel_rfl) (fun _ _ _ h => h) (Or.inl ⟨by rfl, ?_⟩) hS0 ?_
  rotate_left
  · intro W hSW
    try go_simp
    all_goals with_reducible rfl
  simp only [Act.put, List.setIfInBounds_toArray, List.set_cons_zero, List.set_cons_succ, List.getElem_toArray, List.getElem_cons_zero, List.getElem_cons_succ]
  refine wpAnyH_take (i := 1) (oi := _) (v := ?_) rfl (by kernel_rfl) (by kernel_rfl) (by kernel_rfl) (fun _ _ _ h => h) (Or.inl ⟨by rfl, ?_⟩) hS0 ?_
  rotate_left
  · intro W hSW
    try go_simp
    all_goals with_reducible rfl
  simp only [Act.put, List.setIfInBounds_toArray, List.set_cons_zero, List.set_cons_succ, List.getElem_toArray, List.getElem_cons_zero, List.getElem_cons_succ]
  refine wpAnyH_take (i := 2) (oi := _) (v := ?_) rfl (by kernel_rfl) (by kernel_rfl) (by kernel_rfl) (fun _ _ _ h => h) (Or.inl ⟨by rfl, ?_⟩) hS0 ?_
  rotate_left
  · intro W hSW
    try go_simp
    all_goals with_reducible rfl
  simp only [Act.put, List.setIfInBounds_toArray, List.set_cons_zero, List.set_cons_succ, List.getElem_toArray, List.getElem_cons_zero, List.getElem_cons_succ]
  refine wpAnyH_take (i := 3) (oi := _) (v := ?_) rfl (by kernel_rfl) (by kernel_rfl) (by kernel_rfl) (fun _ _ _ h => h) (Or.inl ⟨by rfl, ?_⟩) hS0 ?_
  rotate_left
  · intro W hSW
    try go_simp
    all_goals with_reducible rfl
  simp only [Act.put, List.setIfInBounds_toArray, List.set_cons_zero, List.set_cons_succ, List.getElem_toArray, List.getElem_cons_zero, List.getElem_cons_succ]
  refine wpAnyH_take (i := 4) (oi := _) (v := ?_) rfl (by kernel_rfl) (by kernel_rfl) (by kernel_rfl) (fun _ _ _ h => h) (Or.inl ⟨by rfl, ?_⟩) hS0 ?_
  rotate_left
  · intro W hSW
    try go_simp
    all_goals with_reducible rfl
  simp only [Act.put, List.setIfInBounds_toArray, List.set_cons_zero, List.set_cons_succ, List.getElem_toArray, List.getElem_cons_zero, List.getElem_cons_succ]
  refine wpAnyH_take (i := 5) (oi := _) (v := ?_) rfl (by kernel_rfl) (by kernel_rfl) (by kernel_rfl) (fun _ _ _ h => h) (Or.inl ⟨by rfl, ?_⟩) hS0 ?_
  rotate_left
  · intro W hSW
    try go_simp
    all_goals with_reducible rfl
  simp only [Act.put, List.setIfInBounds_toArray, List.set_cons_zero, List.set_cons_succ, List.getElem_toArray, List.getElem_cons_zero, List.getElem_cons_succ]
  refine wpAnyH_take (i := 6) (oi := _) (v := ?_) rfl (by kernel_rfl) (by kernel_rfl) (by kernel_rfl) (fun _ _ _ h => h) (Or.inl ⟨by rfl, ?_⟩) hS0 ?_
  rotate_left
  · intro W hSW
    try go_simp
    all_goals with_reducible rfl
  simp only [Act.put, List.setIfInBounds_toArray, List.set_cons_zero, List.set_cons_succ, List.getElem_toArray, List.getElem_cons_zero, List.getElem_cons_succ]
  refine wpAnyH_take (i := 7) (oi := _) (v := ?_) rfl (by kernel_rfl) (by kernel_rfl) (by kernel_rfl) (fun _ _ _ h => h) (Or.inl ⟨by rfl, ?_⟩) hS0 ?_
  rotate_left
  · intro W hSW
    try go_simp
    all_goals with_reducible rfl
  simp only [Act.put, List.setIfInBounds_toArray, List.set_cons_zero, List.set_cons_succ, List.getElem_toArray, List.getElem_cons_zero, List.getElem_cons_succ]
  refine wpAnyH_take (i := 8) (oi := _) (v := ?_) rfl (by kernel_rfl) (by kernel_rfl) (by kernel_rfl) (fun _ _ _ h => h) (Or.inl ⟨by rfl, ?_⟩) hS0 ?_
  rotate_left
  · intro W hSW
    try go_simp
    all_goals with_reducible rfl
  simp only [Act.put, List.setIfInBounds_toArray, List.set_cons_zero, List.set_cons_succ, List.getElem_toArray, List.getElem_cons_zero, List.getElem_cons_succ]
  refine wpAnyH_take (i := 9) (oi := _) (v := ?_) rfl (by kernel_rfl) (by kernel_rfl) (by kernel_rfl) (fun _ _ _ h => h) (Or.inl ⟨by rfl, ?_⟩) hS0 ?_
  rotate_left
  · intro W hSW
    try go_simp
    all_goals with_reducible rfl
  simp only [Act.put, List.setIfInBounds_toArray, List.set_cons_zero, List.set_cons_succ, List.getElem_toArray, List.getElem_cons_zero, List.getElem_cons_succ]
  refine wpAnyH_take (i := 10) (oi := _) (v := ?_) rfl (by kernel_rfl) (by kernel_rfl) (by kernel_rfl) (fun _ _ _ h => h) (Or.inl ⟨by rfl, ?_⟩) hS0 ?_
  rotate_left
  · intro W hSW
    try go_simp
    all_goals with_reducible rfl
  simp only [Act.put, List.setIfInBounds_toArray, List.set_cons_zero, List.set_cons_succ, List.getElem_toArray, List.getElem_cons_zero, List.getElem_cons_succ]
  refine wpAnyH_take (i := 11) (oi := _) (v := ?_) rfl (by kernel_rfl) (by kernel_rfl) (by kernel_rfl) (fun _ _ _ h => h) (Or.inl ⟨by rfl, ?_⟩) hS0 ?_
  rotate_left
  · intro W hSW
    try go_simp
    all_goals with_reducible rfl
  simp only [Act.put, List.setIfInBounds_toArray, List.set_cons_zero, List.set_cons_succ, List.getElem_toArray, List.getElem_cons_zero, List.getElem_cons_succ]
  refine wpAnyH_take (i := 12) (oi := _) (v := ?_) rfl (by kernel_rfl) (by kernel_rfl) (by kernel_rfl) (fun _ _ _ h => h) (Or.inl ⟨by rfl, ?_⟩) hS0 ?_
  rotate_left
  · intro W hSW
    try go_simp
    all_goals with_reducible rfl
  simp only [Act.put, List.setIfInBounds_toArray, List.set_cons_zero, List.set_cons_succ, List.getElem_toArray, List.getElem_cons_zero, List.getElem_cons_succ]
  refine wpAnyH_take (i := 13) (oi := _) (v := ?_) rfl (by kernel_rfl) (by kernel_rfl) (by kernel_rfl) (fun _ _ _ h => h) (Or.inl ⟨by rfl, ?_⟩) hS0 ?_
  rotate_left
  · intro W hSW
    try go_simp
    all_goals with_reducible rfl
  simp only [Act.put, List.setIfInBounds_toArray, List.set_cons_zero, List.set_cons_succ, List.getElem_toArray, List.getElem_cons_zero, List.getElem_cons_succ]
  refine wpAnyH_take (i := 14) (oi := _) (v := ?_) rfl (by kernel_rfl) (by kernel_rfl) (by kernel_rfl) (fun _ _ _ h => h) (Or.inl ⟨by rfl, ?_⟩) hS0 ?_
  rotate_left
  · intro W hSW
    obtain ⟨d0, d1, d2, d3, d4, d5, d6⟩ := HC9.out W (below_chain hbd hbd.size hSW)
    try go_simp
    all_goals with_reducible rfl
  simp only [Act.put, List.setIfInBounds_toArray, List.set_cons_zero, List.set_cons_succ, List.getElem_toArray, List.getElem_cons_zero, List.getElem_cons_succ]
  refine wpAnyH_take (i := 17) (oi := _) (v := ?_) rfl (by kernel_rfl) (by kernel_rfl) (by kernel_rfl) (fun _ _ _ h => h) (Or.inl ⟨by rfl, ?_⟩) hS0 ?_
  rotate_left
  · intro W hSW
    obtain ⟨d0, d1, d2, d3, d4, d5, d6⟩ := HC9.out W (below_chain hbd hbd.size hSW)
    try go_simp
    all_goals with_reducible rfl
  simp only [Act.put, List.setIfInBounds_toArray, List.set_cons_zero, List.set_cons_succ, List.getElem_toArray, List.getElem_cons_zero, List.getElem_cons_succ]
  refine wpAnyH_ready (rs := [15]) (by kernel_rfl) (by simp) (AllReadyH.cons rfl (fun K hK => ?_) AllReadyH.nil)
  have DA := Lib.hid (HB1.out w9.drew)
  go_simp
  go_wp2_with ((go_at_call 32; (with_reducible refine DA.out.mono ?_); rintro e wA ⟨vA, rfl, hoA, hbA⟩))
  have hqA := below_chain hbd hbd.size hbA
  refine hK.out _ _ hbA (fun _ => ?_)
  clear hK K DA
  refine wpAnyH_stronger (S' := BelS wA) (fun W h => below_chain hbA hbA.size h) _ _ _ _ ?_
  have hSA : BelS wA wA := BelS.refl wA
  refine wpAnyH_take (i := 16) (oi := _) (v := ?_) rfl (by kernel_rfl) (by kernel_rfl) (by kernel_rfl) (fun _ _ _ h => h) (Or.inl ⟨by rfl, ?_⟩) hSA ?_
  rotate_left
  · intro W hSW
    have cv := HCS.out W _ (hoA.rd.up (Nat.le_refl _) hSW)
    try go_simp
    all_goals with_reducible rfl
  simp only [Act.put, List.setIfInBounds_toArray, List.set_cons_zero, List.set_cons_succ, List.getElem_toArray, List.getElem_cons_zero, List.getElem_cons_succ]
  refine wpAnyH_ready (rs := [18]) (by kernel_rfl) (by simp) (AllReadyH.cons rfl (fun K hK => ?_) AllReadyH.nil)
  have DB := Lib.hid (HB2.out wA)
  go_simp
  go_wp2_with ((go_at_call 33; (with_reducible refine DB.out.mono ?_); rintro e wB ⟨vB, rfl, hoB, hbB⟩))
  have hqB := below_chain hqA hqA.size hbB
  refine hK.out _ _ hbB (fun _ => ?_)
  clear hK K DB
  refine wpAnyH_stronger (S' := BelS wB) (fun W h => below_chain hbB hbB.size h) _ _ _ _ ?_
  have hSB : BelS wB wB := BelS.refl wB
  refine wpAnyH_take (i := 19) (oi := _) (v := ?_) rfl (by kernel_rfl) (by kernel_rfl) (by kernel_rfl) (fun _ _ _ h => h) (Or.inl ⟨by rfl, ?_⟩) hSB ?_
  rotate_left
  · intro W hSW
    have cv := HCS.out W _ (hoB.rd.up (Nat.le_refl _) hSW)
    try go_simp
    all_goals with_reducible rfl
  simp only [Act.put, List.setIfInBounds_toArray, List.set_cons_zero, List.set_cons_succ, List.getElem_toArray, List.getElem_cons_zero, List.getElem_cons_succ]
  refine wpAnyH_take (i := 20) (oi := _) (v := ?_) rfl (by kernel_rfl) (by kernel_rfl) (by kernel_rfl) (fun _ _ _ h => h) (Or.inl ⟨by rfl, ?_⟩) hSB ?_
  rotate_left
  · intro W hSW
    try go_simp
    all_goals with_reducible rfl
  simp only [Act.put, List.setIfInBounds_toArray, List.set_cons_zero, List.set_cons_succ, List.getElem_toArray, List.getElem_cons_zero, List.getElem_cons_succ]
  refine wpAnyH_take (i := 21) (oi := _) (v := ?_) rfl (by kernel_rfl) (by kernel_rfl) (by kernel_rfl) (fun _ _ _ h => h) (Or.inl ⟨by rfl, ?_⟩) hSB ?_
  rotate_left
  · intro W hSW
    try go_simp
    all_goals with_reducible rfl
  simp only [Act.put, List.setIfInBounds_toArray, List.set_cons_zero, List.set_cons_succ, List.getElem_toArray, List.getElem_cons_zero, List.getElem_cons_succ]
  refine wpAnyH_take (i := 22) (oi := _) (v := ?_) rfl (by kernel_rfl) (by kernel_rfl) (by kernel_rfl) (fun _ _ _ h => h) (Or.inl ⟨by rfl, ?_⟩) hSB ?_
  rotate_left
  · intro W hSW
    try go_simp
    all_goals with_reducible rfl
  simp only [Act.put, List.setIfInBounds_toArray, List.set_cons_zero, List.set_cons_succ, List.getElem_toArray, List.getElem_cons_zero, List.getElem_cons_succ]
  refine wpAnyH_take (i := 23) (oi := _) (v := ?_) rfl (by kernel_rfl) (by kernel_rfl) (by kernel_rfl) (fun _ _ _ h => h) (Or.inl ⟨by rfl, ?_⟩) hSB ?_
  rotate_left
  · intro W hSW
    try go_simp
    all_goals with_reducible rfl
  simp only [Act.put, List.setIfInBounds_toArray, List.set_cons_zero, List.set_cons_succ, List.getElem_toArray, List.getElem_cons_zero, List.getElem_cons_succ]
  refine wpAnyH_take (i := 24) (oi := _) (v := ?_) rfl (by kernel_rfl) (by kernel_rfl) (by kernel_rfl) (fun _ _ _ h => h) (Or.inl ⟨by rfl, ?_⟩) hSB ?_
  rotate_left
  · intro W hSW
    obtain ⟨d0, d1, d2, d3, d4, d5, d6⟩ := HC9.out W (below_chain hqB hqB.size hSW)
    try go_simp
    all_goals with_reducible rfl
  simp only [Act.put, List.setIfInBounds_toArray, List.set_cons_zero, List.set_cons_succ, List.getElem_toArray, List.getElem_cons_zero, List.getElem_cons_succ]
  refine wpAnyH_take (i := 26) (oi := _) (v := ?_) rfl (by kernel_rfl) (by kernel_rfl) (by kernel_rfl) (fun _ _ _ h => h) (Or.inl ⟨by rfl, ?_⟩) hSB ?_
  rotate_left
  · intro W hSW
    try go_simp
    all_goals with_reducible rfl
  simp only [Act.put, List.setIfInBounds_toArray, List.set_cons_zero, List.set_cons_succ, List.getElem_toArray, List.getElem_cons_zero, List.getElem_cons_succ]
  refine wpAnyH_take (i := 27) (oi := _) (v := ?_) rfl (by kernel_rfl) (by kernel_rfl) (by kernel_rfl) (fun _ _ _ h => h) (Or.inl ⟨by rfl, ?_⟩) hSB ?_
  rotate_left
  · intro W hSW
    obtain ⟨d0, d1, d2, d3, d4, d5, d6⟩ := HC9.out W (below_chain hqB hqB.size hSW)
    try go_simp
    all_goals with_reducible rfl
  simp only [Act.put, List.setIfInBounds_toArray, List.set_cons_zero, List.set_cons_succ, List.getElem_toArray, List.getElem_cons_zero, List.getElem_cons_succ]
  refine wpAnyH_ready (rs := [25]) (by kernel_rfl) (by simp) (AllReadyH.cons rfl (fun K hK => ?_) AllReadyH.nil)
  have DC := Lib.hid (HK1.out wB)
  go_simp
  go_wp2_with ((go_at_call 34; (with_reducible refine DC.out.mono ?_); rintro e wC ⟨rfl, hbC⟩))
  have hqC := below_chain hqB hqB.size hbC
  refine hK.out _ _ hbC (fun _ => ?_)
  clear hK K DC
  refine wpAnyH_stronger (S' := BelS wC) (fun W h => below_chain hbC hbC.size h) _ _ _ _ ?_
  have hSC : BelS wC wC := BelS.refl wC
  refine wpAnyH_ready (rs := [28]) (by kernel_rfl) (by simp) (AllReadyH.cons rfl (fun K hK => ?_) AllReadyH.nil)
  have DD := Lib.hid (HK2.out wC)
  go_simp
  go_wp2_with ((go_at_call 35; (with_reducible refine DD.out.mono ?_); rintro e wD ⟨rfl, hbD⟩))
  have hqD := below_chain hqC hqC.size hbD
  refine hK.out _ _ hbD (fun _ => ?_)
  clear hK K DD
  refine wpAnyH_stronger (S' := BelS wD) (fun W h => below_chain hbD hbD.size h) _ _ _ _ ?_
  have hSD : BelS wD wD := BelS.refl wD
  refine wpAnyH_take (i := 29) (oi := _) (v := ?_) rfl (by kernel_rfl) (by kernel_rfl) (by kernel_rfl) (fun _ _ _ h => h) (Or.inl ⟨by rfl, ?_⟩) hSD ?_
  rotate_left
  · intro W hSW
    try go_simp
    all_goals with_reducible rfl
  simp only [Act.put, List.setIfInBounds_toArray, List.set_cons_zero, List.set_cons_succ, List.getElem_toArray, List.getElem_cons_zero, List.getElem_cons_succ]
  refine wpAnyH_take (i := 30) (oi := _) (v := ?_) rfl (by kernel_rfl) (by kernel_rfl) (by kernel_rfl) (fun _ _ _ h => h) (Or.inl ⟨by rfl, ?_⟩) hSD ?_
  rotate_left
  · intro W hSW
    try go_simp
    all_goals with_reducible rfl
  simp only [Act.put, List.setIfInBounds_toArray, List.set_cons_zero, List.set_cons_succ, List.getElem_toArray, List.getElem_cons_zero, List.getElem_cons_succ]
  refine wpAnyH_take (i := 31) (oi := _) (v := ?_) rfl (by kernel_rfl) (by kernel_rfl) (by kernel_rfl) (fun _ _ _ h => h) (Or.inl ⟨by rfl, ?_⟩) hSD ?_
  rotate_left
  · intro W hSW
    try go_simp
    all_goals with_reducible rfl
  simp only [Act.put, List.setIfInBounds_toArray, List.set_cons_zero, List.set_cons_succ, List.getElem_toArray, List.getElem_cons_zero, List.getElem_cons_succ]
  refine wpAnyH_take (i := 32) (oi := _) (v := ?_) rfl (by kernel_rfl) (by kernel_rfl) (by kernel_rfl) (fun _ _ _ h => h) (Or.inl ⟨by rfl, ?_⟩) hSD ?_
  rotate_left
  · intro W hSW
    try go_simp
    all_goals with_reducible rfl
  simp only [Act.put, List.setIfInBounds_toArray, List.set_cons_zero, List.set_cons_succ, List.getElem_toArray, List.getElem_cons_zero, List.getElem_cons_succ]
  refine wpAnyH_take (i := 33) (oi := _) (v := ?_) rfl (by kernel_rfl) (by kernel_rfl) (by kernel_rfl) (fun _ _ _ h => h) (Or.inl ⟨by rfl, ?_⟩) hSD ?_
  rotate_left
  · intro W hSW
    obtain ⟨d0, d1, d2, d3, d4, d5, d6⟩ := HC9.out W (below_chain hqD hqD.size hSW)
    try go_simp
    all_goals with_reducible rfl
  simp only [Act.put, List.setIfInBounds_toArray, List.set_cons_zero, List.set_cons_succ, List.getElem_toArray, List.getElem_cons_zero, List.getElem_cons_succ]
  refine wpAnyH_take (i := 35) (oi := _) (v := ?_) rfl (by kernel_rfl) (by kernel_rfl) (by kernel_rfl) (fun _ _ _ h => h) (Or.inl ⟨by rfl, ?_⟩) hSD ?_
  rotate_left
  · intro W hSW
    try go_simp
    all_goals with_reducible rfl
  simp only [Act.put, List.setIfInBounds_toArray, List.set_cons_zero, List.set_cons_succ, List.getElem_toArray, List.getElem_cons_zero, List.getElem_cons_succ]
  refine wpAnyH_take (i := 36) (oi := _) (v := ?_) rfl (by kernel_rfl) (by kernel_rfl) (by kernel_rfl) (fun _ _ _ h => h) (Or.inl ⟨by rfl, ?_⟩) hSD ?_
  rotate_left
  · intro W hSW
    obtain ⟨d0, d1, d2, d3, d4, d5, d6⟩ := HC9.out W (below_chain hqD hqD.size hSW)
    try go_simp
    all_goals with_reducible rfl
  simp only [Act.put, List.setIfInBounds_toArray, List.set_cons_zero, List.set_cons_succ, List.getElem_toArray, List.getElem_cons_zero, List.getElem_cons_succ]
  refine wpAnyH_ready (rs := [34]) (by kernel_rfl) (by simp) (AllReadyH.cons rfl (fun K hK => ?_) AllReadyH.nil)
  have DE := Lib.hid (HK3.out wD)
  go_simp
  go_wp2_with ((go_at_call 36; (with_reducible refine DE.out.mono ?_); rintro e wE ⟨rfl, hbE⟩))
  have hqE := below_chain hqD hqD.size hbE
  refine hK.out _ _ hbE (fun _ => ?_)
  clear hK K DE
  refine wpAnyH_stronger (S' := BelS wE) (fun W h => below_chain hbE hbE.size h) _ _ _ _ ?_
  have hSE : BelS wE wE := BelS.refl wE
  refine wpAnyH_ready (rs := [37]) (by kernel_rfl) (by simp) (AllReadyH.cons rfl (fun K hK => ?_) AllReadyH.nil)
  have DF := Lib.hid (HK4.out wE)
  go_simp
  go_wp2_with ((go_at_call 37; (with_reducible refine DF.out.mono ?_); rintro e wF ⟨rfl, hbF⟩))
  have hqF := below_chain hqE hqE.size hbF
  refine hK.out _ _ hbF (fun _ => ?_)
  clear hK K DF
  refine wpAnyH_stronger (S' := BelS wF) (fun W h => below_chain hbF hbF.size h) _ _ _ _ ?_
  have hSF : BelS wF wF := BelS.refl wF
  refine wpAnyH_take (i := 38) (oi := _) (v := ?_) rfl (by kernel_rfl) (by kernel_rfl) (by kernel_rfl) (fun _ _ _ h => h) (Or.inl ⟨by rfl, ?_⟩) hSF ?_
  rotate_left
  · intro W hSW
    try go_simp
    all_goals with_reducible rfl
  simp only [Act.put, List.setIfInBounds_toArray, List.set_cons_zero, List.set_cons_succ, List.getElem_toArray, List.getElem_cons_zero, List.getElem_cons_succ]
  refine wpAnyH_take (i := 39) (oi := _) (v := ?_) rfl (by kernel_rfl) (by kernel_rfl) (by kernel_rfl) (fun _ _ _ h => h) (Or.inl ⟨by rfl, ?_⟩) hSF ?_
  rotate_left
  · intro W hSW
    try go_simp
    all_goals with_reducible rfl
  simp only [Act.put, List.setIfInBounds_toArray, List.set_cons_zero, List.set_cons_succ, List.getElem_toArray, List.getElem_cons_zero, List.getElem_cons_succ]
  refine wpAnyH_take (i := 40) (oi := _) (v := ?_) rfl (by kernel_rfl) (by kernel_rfl) (by kernel_rfl) (fun _ _ _ h => h) (Or.inl ⟨by rfl, ?_⟩) hSF ?_
  rotate_left
  · intro W hSW
    try go_simp
    all_goals with_reducible rfl
  simp only [Act.put, List.setIfInBounds_toArray, List.set_cons_zero, List.set_cons_succ, List.getElem_toArray, List.getElem_cons_zero, List.getElem_cons_succ]
  refine wpAnyH_take (i := 41) (oi := _) (v := ?_) rfl (by kernel_rfl) (by kernel_rfl) (by kernel_rfl) (fun _ _ _ h => h) (Or.inl ⟨by rfl, ?_⟩) hSF ?_
  rotate_left
  · intro W hSW
    try go_simp
    all_goals with_reducible rfl
  simp only [Act.put, List.setIfInBounds_toArray, List.set_cons_zero, List.set_cons_succ, List.getElem_toArray, List.getElem_cons_zero, List.getElem_cons_succ]
  refine wpAnyH_take (i := 42) (oi := _) (v := ?_) rfl (by kernel_rfl) (by kernel_rfl) (by kernel_rfl) (fun _ _ _ h => h) (Or.inl ⟨by rfl, ?_⟩) hSF ?_
  rotate_left
  · intro W hSW
    obtain ⟨d0, d1, d2, d3, d4, d5, d6⟩ := HC9.out W (below_chain hqF hqF.size hSW)
    try go_simp
    all_goals with_reducible rfl
  simp only [Act.put, List.setIfInBounds_toArray, List.set_cons_zero, List.set_cons_succ, List.getElem_toArray, List.getElem_cons_zero, List.getElem_cons_succ]
  refine wpAnyH_take (i := 44) (oi := _) (v := ?_) rfl (by kernel_rfl) (by kernel_rfl) (by kernel_rfl) (fun _ _ _ h => h) (Or.inl ⟨by rfl, ?_⟩) hSF ?_
  rotate_left
  · intro W hSW
    try go_simp
    all_goals with_reducible rfl
  simp only [Act.put, List.setIfInBounds_toArray, List.set_cons_zero, List.set_cons_succ, List.getElem_toArray, List.getElem_cons_zero, List.getElem_cons_succ]
  refine wpAnyH_take (i := 45) (oi := _) (v := ?_) rfl (by kernel_rfl) (by kernel_rfl) (by kernel_rfl) (fun _ _ _ h => h) (Or.inl ⟨by rfl, ?_⟩) hSF ?_
  rotate_left
  · intro W hSW
    obtain ⟨d0, d1, d2, d3, d4, d5, d6⟩ := HC9.out W (below_chain hqF hqF.size hSW)
    try go_simp
    all_goals with_reducible rfl
  simp only [Act.put, List.setIfInBounds_toArray, List.set_cons_zero, List.set_cons_succ, List.getElem_toArray, List.getElem_cons_zero, List.getElem_cons_succ]
  refine wpAnyH_ready (rs := [43]) (by kernel_rfl) (by simp) (AllReadyH.cons rfl (fun K hK => ?_) AllReadyH.nil)
  have DG := Lib.hid (HK5.out wF)
  go_simp
  go_wp2_with ((go_at_call 38; (with_reducible refine DG.out.mono ?_); rintro e wG ⟨rfl, hbG⟩))
  have hqG := below_chain hqF hqF.size hbG
  refine hK.out _ _ hbG (fun _ => ?_)
  clear hK K DG
  refine wpAnyH_stronger (S' := BelS wG) (fun W h => below_chain hbG hbG.size h) _ _ _ _ ?_
  have hSG : BelS wG wG := BelS.refl wG
  refine wpAnyH_ready (rs := [46]) (by kernel_rfl) (by simp) (AllReadyH.cons rfl (fun K hK => ?_) AllReadyH.nil)
  have DH := Lib.hid (HK6.out wG)
  go_simp
  go_wp2_with ((go_at_call 39; (with_reducible refine DH.out.mono ?_); rintro e wH ⟨rfl, hbH⟩))
  have hqH := below_chain hqG hqG.size hbH
  refine hK.out _ _ hbH (fun _ => ?_)
  clear hK K DH
  refine wpAnyH_stronger (S' := BelS wH) (fun W h => below_chain hbH hbH.size h) _ _ _ _ ?_
  have hSH : BelS wH wH := BelS.refl wH
  refine wpAnyH_take (i := 47) (oi := _) (v := ?_) rfl (by kernel_rfl) (by kernel_rfl) (by kernel_rfl) (fun _ _ _ h => h) (Or.inl ⟨by rfl, ?_⟩) hSH ?_
  rotate_left
  · intro W hSW
    try go_simp
    all_goals with_reducible rfl
  simp only [Act.put, List.setIfInBounds_toArray, List.set_cons_zero, List.set_cons_succ, List.getElem_toArray, List.getElem_cons_zero, List.getElem_cons_succ]
  refine wpAnyH_take (i := 48) (oi := _) (v := ?_) rfl (by kernel_rfl) (by kernel_rfl) (by kernel_rfl) (fun _ _ _ h => h) (Or.inl ⟨by rfl, ?_⟩) hSH ?_
  rotate_left
  · intro W hSW
    try go_simp
    all_goals with_reducible rfl
  simp only [Act.put, List.setIfInBounds_toArray, List.set_cons_zero, List.set_cons_succ, List.getElem_toArray, List.getElem_cons_zero, List.getElem_cons_succ]
  refine wpAnyH_take (i := 49) (oi := _) (v := ?_) rfl (by kernel_rfl) (by kernel_rfl) (by kernel_rfl) (fun _ _ _ h => h) (Or.inl ⟨by rfl, ?_⟩) hSH ?_
  rotate_left
  · intro W hSW
    try go_simp
    all_goals with_reducible rfl
  simp only [Act.put, List.setIfInBounds_toArray, List.set_cons_zero, List.set_cons_succ, List.getElem_toArray, List.getElem_cons_zero, List.getElem_cons_succ]
  refine wpAnyH_take (i := 50) (oi := _) (v := ?_) rfl (by kernel_rfl) (by kernel_rfl) (by kernel_rfl) (fun _ _ _ h => h) (Or.inl ⟨by rfl, ?_⟩) hSH ?_
  rotate_left
  · intro W hSW
    try go_simp
    all_goals with_reducible rfl
  simp only [Act.put, List.setIfInBounds_toArray, List.set_cons_zero, List.set_cons_succ, List.getElem_toArray, List.getElem_cons_zero, List.getElem_cons_succ]
  refine wpAnyH_take (i := 51) (oi := _) (v := ?_) rfl (by kernel_rfl) (by kernel_rfl) (by kernel_rfl) (fun _ _ _ h => h) (Or.inl ⟨by rfl, ?_⟩) hSH ?_
  rotate_left
  · intro W hSW
    obtain ⟨d0, d1, d2, d3, d4, d5, d6⟩ := HC9.out W (below_chain hqH hqH.size hSW)
    try go_simp
    all_goals with_reducible rfl
  simp only [Act.put, List.setIfInBounds_toArray, List.set_cons_zero, List.set_cons_succ, List.getElem_toArray, List.getElem_cons_zero, List.getElem_cons_succ]
  refine wpAnyH_take (i := 53) (oi := _) (v := ?_) rfl (by kernel_rfl) (by kernel_rfl) (by kernel_rfl) (fun _ _ _ h => h) (Or.inl ⟨by rfl, ?_⟩) hSH ?_
  rotate_left
  · intro W hSW
    try go_simp
    all_goals with_reducible rfl
  simp only [Act.put, List.setIfInBounds_toArray, List.set_cons_zero, List.set_cons_succ, List.getElem_toArray, List.getElem_cons_zero, List.getElem_cons_succ]
  refine wpAnyH_take (i := 54) (oi := _) (v := ?_) rfl (by kernel_rfl) (by kernel_rfl) (by kernel_rfl) (fun _ _ _ h => h) (Or.inl ⟨by rfl, ?_⟩) hSH ?_
  rotate_left
  · intro W hSW
    obtain ⟨d0, d1, d2, d3, d4, d5, d6⟩ := HC9.out W (below_chain hqH hqH.size hSW)
    try go_simp
    all_goals with_reducible rfl
  simp only [Act.put, List.setIfInBounds_toArray, List.set_cons_zero, List.set_cons_succ, List.getElem_toArray, List.getElem_cons_zero, List.getElem_cons_succ]
  refine wpAnyH_ready (rs := [52]) (by kernel_rfl) (by simp) (AllReadyH.cons rfl (fun K hK => ?_) AllReadyH.nil)
  have DJ := Lib.hid (HK7.out wH)
  go_simp
  go_wp2_with ((go_at_call 40; (with_reducible refine DJ.out.mono ?_); rintro e wJ ⟨rfl, hbJ⟩))
  have hqJ := below_chain hqH hqH.size hbJ
  refine hK.out _ _ hbJ (fun _ => ?_)
  clear hK K DJ
  refine wpAnyH_stronger (S' := BelS wJ) (fun W h => below_chain hbJ hbJ.size h) _ _ _ _ ?_
  have hSJ : BelS wJ wJ := BelS.refl wJ
  refine wpAnyH_ready (rs := [55]) (by kernel_rfl) (by simp) (AllReadyH.cons rfl (fun K hK => ?_) AllReadyH.nil)
  have DL := Lib.hid (HK8.out wJ)
  go_simp
  go_wp2_with ((go_at_call 41; (with_reducible refine DL.out.mono ?_); rintro e wL ⟨rfl, hbL⟩))
  have hqL := below_chain hqJ hqJ.size hbL
  refine hK.out _ _ hbL (fun _ => ?_)
  clear hK K DL
  refine wpAnyH_stronger (S' := BelS wL) (fun W h => below_chain hbL hbL.size h) _ _ _ _ ?_
  have hSL : BelS wL wL := BelS.refl wL
  refine wpAnyH_take (i := 56) (oi := _) (v := ?_) rfl (by kernel_rfl) (by kernel_rfl) (by kernel_rfl) (fun _ _ _ h => h) (Or.inl ⟨by rfl, ?_⟩) hSL ?_
  rotate_left
  · intro W hSW
    try go_simp
    all_goals with_reducible rfl
  simp only [Act.put, List.setIfInBounds_toArray, List.set_cons_zero, List.set_cons_succ, List.getElem_toArray, List.getElem_cons_zero, List.getElem_cons_succ]
  refine wpAnyH_take (i := 57) (oi := _) (v := ?_) rfl (by kernel_rfl) (by kernel_rfl) (by kernel_rfl) (fun _ _ _ h => h) (Or.inl ⟨by rfl, ?_⟩) hSL ?_
  rotate_left
  · intro W hSW
    try go_simp
    all_goals with_reducible rfl
  simp only [Act.put, List.setIfInBounds_toArray, List.set_cons_zero, List.set_cons_succ, List.getElem_toArray, List.getElem_cons_zero, List.getElem_cons_succ]
  refine wpAnyH_take (i := 58) (oi := _) (v := ?_) rfl (by kernel_rfl) (by kernel_rfl) (by kernel_rfl) (fun _ _ _ h => h) (Or.inl ⟨by rfl, ?_⟩) hSL ?_
  rotate_left
  · intro W hSW
    try go_simp
    all_goals with_reducible rfl
  simp only [Act.put, List.setIfInBounds_toArray, List.set_cons_zero, List.set_cons_succ, List.getElem_toArray, List.getElem_cons_zero, List.getElem_cons_succ]
  refine wpAnyH_take (i := 59) (oi := _) (v := ?_) rfl (by kernel_rfl) (by kernel_rfl) (by kernel_rfl) (fun _ _ _ h => h) (Or.inl ⟨by rfl, ?_⟩) hSL ?_
  rotate_left
  · intro W hSW
    try go_simp
    all_goals with_reducible rfl
  simp only [Act.put, List.setIfInBounds_toArray, List.set_cons_zero, List.set_cons_succ, List.getElem_toArray, List.getElem_cons_zero, List.getElem_cons_succ]
  refine wpAnyH_take (i := 61) (oi := _) (v := ?_) rfl (by kernel_rfl) (by kernel_rfl) (by kernel_rfl) (fun _ _ _ h => h) (Or.inl ⟨by rfl, ?_⟩) hSL ?_
  rotate_left
  · intro W hSW
    try go_simp
    all_goals with_reducible rfl
  simp only [Act.put, List.setIfInBounds_toArray, List.set_cons_zero, List.set_cons_succ, List.getElem_toArray, List.getElem_cons_zero, List.getElem_cons_succ]
  refine wpAnyH_ready (rs := [60]) (by kernel_rfl) (by simp) (AllReadyH.cons rfl (fun K hK => ?_) AllReadyH.nil)
  have DP := Lib.hid (HPA.out wL hqL)
  go_simp
  go_wp2_with ((go_at_call 15; (with_reducible refine DP.out.mono ?_); rintro e wP ⟨vP, rfl, hoP, hbP⟩))
  have hqP := below_chain hqL hqL.size hbP
  refine hK.out _ _ hbP (fun _ => ?_)
  clear hK K DP
  refine wpAnyH_stronger (S' := BelS wP) (fun W h => below_chain hbP hbP.size h) _ _ _ _ ?_
  have hSP : BelS wP wP := BelS.refl wP
  refine wpAnyH_ready (rs := [62]) (by kernel_rfl) (by simp) (AllReadyH.cons rfl (fun K hK => ?_) AllReadyH.nil)
  have DQ := Lib.hid (HPB.out wP hqP)
  go_simp
  go_wp2_with ((go_at_call 25; (with_reducible refine DQ.out.mono ?_); rintro e wQ ⟨vQ, rfl, hoQ, hbQ⟩))
  have hqQ := below_chain hqP hqP.size hbQ
  refine hK.out _ _ hbQ (fun _ => ?_)
  clear hK K DQ
  refine wpAnyH_stronger (S' := BelS wQ) (fun W h => below_chain hbQ hbQ.size h) _ _ _ _ ?_
  have hSQ : BelS wQ wQ := BelS.refl wQ
  refine wpAnyH_ready (rs := [63]) (by kernel_rfl) (by simp) (AllReadyH.cons rfl (fun K hK => ?_) AllReadyH.nil)
  have DR := Lib.hid (HSM.out wQ _ _ (hoP.kept (Kept.of_below hbQ)) hoQ)
  go_simp
  go_wp2_with ((go_at_call 14; (with_reducible refine DR.out.mono ?_); rintro e wR ⟨rfl, hbR⟩))
  have hqR := below_chain hqQ hqQ.size hbR
  refine hK.out _ _ hbR (fun _ => ?_)
  clear hK K DR
  refine wpAnyH_stronger (S' := BelS wR) (fun W h => below_chain hbR hbR.size h) _ _ _ _ ?_
  have hSR : BelS wR wR := BelS.refl wR
  refine wpAnyH_take (i := 64) (oi := _) (v := ?_) rfl (by kernel_rfl) (by kernel_rfl) (by kernel_rfl) (fun _ _ _ h => h) (Or.inl ⟨by rfl, ?_⟩) hSR ?_
  rotate_left
  · intro W hSW
    try go_simp
    all_goals with_reducible rfl
  simp only [Act.put, List.setIfInBounds_toArray, List.set_cons_zero, List.set_cons_succ, List.getElem_toArray, List.getElem_cons_zero, List.getElem_cons_succ]
  refine wpAnyH_take (i := 65) (oi := _) (v := ?_) rfl (by kernel_rfl) (by kernel_rfl) (by kernel_rfl) (fun _ _ _ h => h) (Or.inl ⟨by rfl, ?_⟩) hSR ?_
  rotate_left
  · intro W hSW
    try go_simp
    all_goals with_reducible rfl
  simp only [Act.put, List.setIfInBounds_toArray, List.set_cons_zero, List.set_cons_succ, List.getElem_toArray, List.getElem_cons_zero, List.getElem_cons_succ]
  refine wpAnyH_done (by kernel_rfl) ?_ _
  have hfin := HFIN.out _ (below_chain hq9 hq9.size hqR)
  go_wp2_with fail
  go_ret
  exact ⟨rfl, by first | exact hfin | (rw [hgg]; exact hfin)⟩
end Go.Proofs.YtpcoonnfaoakhaaGreatDoor
