
/- The walk of the law, one case. -/
import Derived.Test.YtlkkjnacolmmpaaDoorPktLH
namespace Go.Proofs.YtlkkjnacolmmpaaDoor
set_option maxRecDepth 100000
open Go Go.RowKit
set_option linter.unusedVariables false

set_option maxHeartbeats 64000000 in
theorem pbytes_lawC (w : World) (P : PktV) (hP : P.ok) (hs1 : P.src.size ≤ 10000000) (hs2 : P.dst.size ≤ 10000000) (hs3 : P.data.length ≤ 10000000) (vd : Value) (hrd : Rd w w.heap.size vd P.data) (vb : Value) (l : List UInt8) (hr : Rd w w.heap.size vb l) (hl : l.length ≤ 10000000)
    (hcase : (readP l).isSome = false) (hcase2 : P.src.size + P.dst.size + P.data.length < 65000)
    (fr : TypeId × Nat × Nat) (hk : w.heap[0]? = some (.cells kVals fr.1 fr.2)) (fr2 : TypeId × Nat × Nat) (hk2 : w.heap[1]? = some (.cells kVals fr2.1 fr2.2)) :
    Calls Tryd.prog 7 #[P.val vd, vb] w fun e w' => e = .returned (.bool true) ∧ Below w.heap.size w w' := by
  have HPO := Lib.hid hP
  have HRB := Lib.hid (fun (Z : World) (hz : Below w.heap.size w Z) => hr.up (Nat.le_refl _) hz)
  have HRD0 := Lib.hid (fun (Z : World) (hz : Below w.heap.size w Z) => hrd.up (Nat.le_refl _) hz)
  have HT1 : Hid (∀ Z, Below w.heap.size w Z → Z.heap[0]? = some (.cells kVals fr.1 fr.2)) := Lib.hid fun Z hz => (hz.block _ (blk_lt hk)).trans hk
  have HT2 : Hid (∀ Z, Below w.heap.size w Z → Z.heap[1]? = some (.cells kVals fr2.1 fr2.2)) := Lib.hid fun Z hz => (hz.block _ (blk_lt hk2)).trans hk2
  obtain ⟨Ab, cb, rfl⟩ := hr.form
  obtain ⟨Ad, cd, rfl⟩ := hrd.form
  have hQO := readP_ok l
  have hXO := readP_ok (pktB P)
  have hXL := pktB_len P
  have HPA := Lib.hid (fun (Z : World) (hz : Below w.heap.size w Z) => pparse_u _ l Z (HRB.out Z hz) (by omega))
  have HPB := Lib.hid (fun (Z : World) (hz : Below w.heap.size w Z) => rpparse_u _ l Z (HRB.out Z hz) (by omega))
  have HPX : Hid (∀ (v : Value) (Z : World) (B : Nat), Own Z B v (pktB P) → _) := Lib.hid fun v Z B ho => pparse_u v (pktB P) Z ho.rd (by omega)
  have HSQ : Hid ((if (readP l).isSome = true then (0 : Int) else 140) = 140) := Lib.hid (by
    cases e : readP l with
    | none => rfl
    | some v => rw [e] at hcase; cases hcase)
  have HLEN := Lib.hid hcase2
  clear hcase hcase2
  have HSX : Hid (P.src.size + P.dst.size + P.data.length < 65000 → (if (readP (pktB P)).isSome = true then (0 : Int) else 140) = 0 ∧ (readP (pktB P)).getD PktV.none = P) := Lib.hid (fun h => by
    rw [readP_pktB P hP (by omega) (by omega) (by omega)]
    exact ⟨rfl, rfl⟩)
  have hbox := heap_alloc_new w (.cells #[.string P.src, .string P.dst, .int .u64 (P.seq : Int), .slice Ad P.data.length cd, .int .u64 (P.ht : Int), .int .u64 (P.tm : Int)] 55)
  have ha0 : Below w.heap.size w (w.alloc (.cells #[.string P.src, .string P.dst, .int .u64 (P.seq : Int), .slice Ad P.data.length cd, .int .u64 (P.ht : Int), .int .u64 (P.tm : Int)] 55)) := (Below.refl _ _).alloc (Nat.le_refl _) _
  have HB0 := Lib.hid (pbytes_any P (.slice Ad P.data.length cd))
  generalize (readP l).getD PktV.none = Q at *
  generalize (readP (pktB P)).getD PktV.none = X at *
  generalize (if (readP l).isSome = true then (0 : Int) else 140) = qe at *
  generalize (if (readP (pktB P)).isSome = true then (0 : Int) else 140) = xe at *
  obtain ⟨nd, hnd⟩ : ∃ n, n = P.data.length := ⟨_, rfl⟩
  obtain ⟨nb, hnb⟩ : ∃ n, n = l.length := ⟨_, rfl⟩
  rw [← hnd] at HB0 HRD0 hbox ha0 HSX HLEN ⊢
  rw [← hnb] at HPA HPB HRB ⊢
  have HN := Lib.hid (And.intro hs1 (And.intro hs2 (hnd ▸ hs3)))
  clear hr hrd hk hk2 hs1 hs2 hs3 hnd hnb hP hl
  unfold PktV.val at HPA HPB HPX HB0 ⊢
  go_enter Tryd.func7, Tryd.ntmps7
  go_wp2_with fail
  generalize w.alloc (.cells #[.string P.src, .string P.dst, .int .u64 (P.seq : Int), .slice Ad nd cd, .int .u64 (P.ht : Int), .int .u64 (P.tm : Int)] 55) = w0 at *
  refine (HPA.out _ ha0).mono ?_
  rintro e w1 ⟨⟨Aq, nq, cq, hnq, rfl, hrq⟩, hb1⟩
  have q1 := below_chain ha0 ha0.size hb1
  have q1' := q1.alloc q1.size (.cells #[.string Q.src, .string Q.dst, .int .u64 (Q.seq : Int), .slice Aq nq cq, .int .u64 (Q.ht : Int), .int .u64 (Q.tm : Int)] 55)
  have h1 := (hb1.block _ (blk_lt hbox)).trans hbox
  have h1' := (Below.heap_alloc w1 (.cells #[.string Q.src, .string Q.dst, .int .u64 (Q.seq : Int), .slice Aq nq cq, .int .u64 (Q.ht : Int), .int .u64 (Q.tm : Int)] 55) _ (blk_lt h1)).trans h1
  have k5 := heap_alloc_new w1 (.cells #[.string Q.src, .string Q.dst, .int .u64 (Q.seq : Int), .slice Aq nq cq, .int .u64 (Q.ht : Int), .int .u64 (Q.tm : Int)] 55)
  have hrq' := hrq.up (Nat.le_refl _) (show Below w1.heap.size w1 (w1.alloc (.cells #[.string Q.src, .string Q.dst, .int .u64 (Q.seq : Int), .slice Aq nq cq, .int .u64 (Q.ht : Int), .int .u64 (Q.tm : Int)] 55)) from (Below.refl _ _).alloc (Nat.le_refl _) _)
  have HNQ := Lib.hid hnq
  clear HPA hb1 hbox h1 ha0 hrq q1 hnq
  go_wp2_with fail
  generalize w1.alloc (.cells #[.string Q.src, .string Q.dst, .int .u64 (Q.seq : Int), .slice Aq nq cq, .int .u64 (Q.ht : Int), .int .u64 (Q.tm : Int)] 55) = w2 at *
  generalize w1.heap.size = g5 at *
  refine (HPB.out _ q1').mono ?_
  rintro e w3 ⟨⟨Ar, nr, cr, hnr, rfl, hrr⟩, hb3⟩
  obtain rfl : nq = nr := HNQ.out.trans hnr.symm
  clear hnr
  have q3 := below_chain q1' q1'.size hb3
  have q3' := q3.alloc q3.size (.cells #[.string Q.src, .string Q.dst, .int .u64 (Q.seq : Int), .slice Ar nq cr, .int .u64 (Q.ht : Int), .int .u64 (Q.tm : Int)] 55)
  have h3 := (hb3.block _ (blk_lt h1')).trans h1'
  have h3' := (Below.heap_alloc w3 (.cells #[.string Q.src, .string Q.dst, .int .u64 (Q.seq : Int), .slice Ar nq cr, .int .u64 (Q.ht : Int), .int .u64 (Q.tm : Int)] 55) _ (blk_lt h3)).trans h3
  have k53 := (hb3.block _ (blk_lt k5)).trans k5
  have k53' := (Below.heap_alloc w3 (.cells #[.string Q.src, .string Q.dst, .int .u64 (Q.seq : Int), .slice Ar nq cr, .int .u64 (Q.ht : Int), .int .u64 (Q.tm : Int)] 55) _ (blk_lt k53)).trans k53
  have k7 := heap_alloc_new w3 (.cells #[.string Q.src, .string Q.dst, .int .u64 (Q.seq : Int), .slice Ar nq cr, .int .u64 (Q.ht : Int), .int .u64 (Q.tm : Int)] 55)
  have hrq3 := (hrq'.up (Nat.le_refl _) hb3).up (Nat.le_refl _) (show Below w3.heap.size w3 (w3.alloc (.cells #[.string Q.src, .string Q.dst, .int .u64 (Q.seq : Int), .slice Ar nq cr, .int .u64 (Q.ht : Int), .int .u64 (Q.tm : Int)] 55)) from (Below.refl _ _).alloc (Nat.le_refl _) _)
  have hrr' := hrr.up (Nat.le_refl _) (show Below w3.heap.size w3 (w3.alloc (.cells #[.string Q.src, .string Q.dst, .int .u64 (Q.seq : Int), .slice Ar nq cr, .int .u64 (Q.ht : Int), .int .u64 (Q.tm : Int)] 55)) from (Below.refl _ _).alloc (Nat.le_refl _) _)
  have c0 := blk_cell h3' 0
  have c1 := blk_cell h3' 1
  have c2 := blk_cell h3' 2
  have c3 := blk_cell h3' 3
  have c4 := blk_cell h3' 4
  have c5 := blk_cell h3' 5
  have HB1 := Lib.hid (HB0.out (w3.alloc (.cells #[.string Q.src, .string Q.dst, .int .u64 (Q.seq : Int), .slice Ar nq cr, .int .u64 (Q.ht : Int), .int .u64 (Q.tm : Int)] 55)) (HRD0.out _ q3') HPO.out.1 HPO.out.2.1 HPO.out.2.2.1 HPO.out.2.2.2.1 HPO.out.2.2.2.2)
  clear HPB hb3 h1' h3 k5 k53 hrq' hrr q1' q3 HB0
  go_wp2_with fail
  generalize w3.alloc (.cells #[.string Q.src, .string Q.dst, .int .u64 (Q.seq : Int), .slice Ar nq cr, .int .u64 (Q.ht : Int), .int .u64 (Q.tm : Int)] 55) = w5 at *
  generalize w3.heap.size = g7 at *
  refine HB1.out.mono ?_
  rintro e w6 ⟨v6, rfl, ho6, hb6⟩
  have HX6 := Lib.hid (HPX.out _ _ _ ho6)
  obtain ⟨A6, c6, rfl⟩ := ho6.form
  clear c0 c1 c2 c3 c4 c5 HB1 HPX
  generalize (pktB P).length = nx6 at *
  go_wp2_with fail
  refine HX6.out.mono ?_
  rintro e w7 ⟨⟨Ax, nx, cx, hnx, rfl, hrx⟩, hb7⟩
  clear hnx
  have q7 := below_chain hb6 hb6.size hb7
  have q7' := q7.alloc q7.size (.cells #[.string X.src, .string X.dst, .int .u64 (X.seq : Int), .slice Ax nx cx, .int .u64 (X.ht : Int), .int .u64 (X.tm : Int)] 55)
  have hq4 := below_chain q3' q3'.size q7'
  have h4 := (q7'.block _ (blk_lt h3')).trans h3'
  have k54 := (q7'.block _ (blk_lt k53')).trans k53'
  have k74 := (q7'.block _ (blk_lt k7)).trans k7
  have k94 := heap_alloc_new w7 (.cells #[.string X.src, .string X.dst, .int .u64 (X.seq : Int), .slice Ax nx cx, .int .u64 (X.ht : Int), .int .u64 (X.tm : Int)] 55)
  have hrq4 := hrq3.up (Nat.le_refl _) q7'
  have hrr4 := hrr'.up (Nat.le_refl _) q7'
  have hrx4 := hrx.up (Nat.le_refl _) (show Below w7.heap.size w7 (w7.alloc (.cells #[.string X.src, .string X.dst, .int .u64 (X.seq : Int), .slice Ax nx cx, .int .u64 (X.ht : Int), .int .u64 (X.tm : Int)] 55)) from (Below.refl _ _).alloc (Nat.le_refl _) _)
  clear HX6 hb6 hb7 q7 h3' k53' k7 hrq3 hrr' hrx q3' q7' ho6
  go_wp2_with fail
  generalize w7.alloc (.cells #[.string X.src, .string X.dst, .int .u64 (X.seq : Int), .slice Ax nx cx, .int .u64 (X.ht : Int), .int .u64 (X.tm : Int)] 55) = w4 at *
  generalize w7.heap.size = g9 at *
  have HPC : Hid (∀ Z, Below w4.heap.size w4 Z → Z.cell? ⟨w.heap.size, 0, none⟩ = some (.string P.src) ∧ Z.cell? ⟨w.heap.size, 1, none⟩ = some (.string P.dst) ∧ Z.cell? ⟨w.heap.size, 2, none⟩ = some (.int .u64 (P.seq : Int)) ∧ Z.cell? ⟨w.heap.size, 3, none⟩ = some (.slice Ad nd cd) ∧ Z.cell? ⟨w.heap.size, 4, none⟩ = some (.int .u64 (P.ht : Int)) ∧ Z.cell? ⟨w.heap.size, 5, none⟩ = some (.int .u64 (P.tm : Int))) := Lib.hid fun Z hz => ⟨blk_cell ((hz.block _ (blk_lt h4)).trans h4) 0, blk_cell ((hz.block _ (blk_lt h4)).trans h4) 1, blk_cell ((hz.block _ (blk_lt h4)).trans h4) 2, blk_cell ((hz.block _ (blk_lt h4)).trans h4) 3, blk_cell ((hz.block _ (blk_lt h4)).trans h4) 4, blk_cell ((hz.block _ (blk_lt h4)).trans h4) 5⟩
  have HQC : Hid (∀ Z, Below w4.heap.size w4 Z → Z.cell? ⟨g5, 0, none⟩ = some (.string Q.src) ∧ Z.cell? ⟨g5, 1, none⟩ = some (.string Q.dst) ∧ Z.cell? ⟨g5, 2, none⟩ = some (.int .u64 (Q.seq : Int)) ∧ Z.cell? ⟨g5, 3, none⟩ = some (.slice Aq nq cq) ∧ Z.cell? ⟨g5, 4, none⟩ = some (.int .u64 (Q.ht : Int)) ∧ Z.cell? ⟨g5, 5, none⟩ = some (.int .u64 (Q.tm : Int))) := Lib.hid fun Z hz => ⟨blk_cell ((hz.block _ (blk_lt k54)).trans k54) 0, blk_cell ((hz.block _ (blk_lt k54)).trans k54) 1, blk_cell ((hz.block _ (blk_lt k54)).trans k54) 2, blk_cell ((hz.block _ (blk_lt k54)).trans k54) 3, blk_cell ((hz.block _ (blk_lt k54)).trans k54) 4, blk_cell ((hz.block _ (blk_lt k54)).trans k54) 5⟩
  have HRC : Hid (∀ Z, Below w4.heap.size w4 Z → Z.cell? ⟨g7, 0, none⟩ = some (.string Q.src) ∧ Z.cell? ⟨g7, 1, none⟩ = some (.string Q.dst) ∧ Z.cell? ⟨g7, 2, none⟩ = some (.int .u64 (Q.seq : Int)) ∧ Z.cell? ⟨g7, 3, none⟩ = some (.slice Ar nq cr) ∧ Z.cell? ⟨g7, 4, none⟩ = some (.int .u64 (Q.ht : Int)) ∧ Z.cell? ⟨g7, 5, none⟩ = some (.int .u64 (Q.tm : Int))) := Lib.hid fun Z hz => ⟨blk_cell ((hz.block _ (blk_lt k74)).trans k74) 0, blk_cell ((hz.block _ (blk_lt k74)).trans k74) 1, blk_cell ((hz.block _ (blk_lt k74)).trans k74) 2, blk_cell ((hz.block _ (blk_lt k74)).trans k74) 3, blk_cell ((hz.block _ (blk_lt k74)).trans k74) 4, blk_cell ((hz.block _ (blk_lt k74)).trans k74) 5⟩
  have HXC : Hid (∀ Z, Below w4.heap.size w4 Z → Z.cell? ⟨g9, 0, none⟩ = some (.string X.src) ∧ Z.cell? ⟨g9, 1, none⟩ = some (.string X.dst) ∧ Z.cell? ⟨g9, 2, none⟩ = some (.int .u64 (X.seq : Int)) ∧ Z.cell? ⟨g9, 3, none⟩ = some (.slice Ax nx cx) ∧ Z.cell? ⟨g9, 4, none⟩ = some (.int .u64 (X.ht : Int)) ∧ Z.cell? ⟨g9, 5, none⟩ = some (.int .u64 (X.tm : Int))) := Lib.hid fun Z hz => ⟨blk_cell ((hz.block _ (blk_lt k94)).trans k94) 0, blk_cell ((hz.block _ (blk_lt k94)).trans k94) 1, blk_cell ((hz.block _ (blk_lt k94)).trans k94) 2, blk_cell ((hz.block _ (blk_lt k94)).trans k94) 3, blk_cell ((hz.block _ (blk_lt k94)).trans k94) 4, blk_cell ((hz.block _ (blk_lt k94)).trans k94) 5⟩
  have HRD : Hid (∀ Z, Below w4.heap.size w4 Z → Rd Z Z.heap.size (.slice Ab nb cb) l) := Lib.hid fun Z hz => HRB.out Z (below_chain hq4 hq4.size hz)
  have HPD : Hid (∀ Z, Below w4.heap.size w4 Z → Rd Z Z.heap.size (.slice Ad nd cd) P.data) := Lib.hid fun Z hz => HRD0.out Z (below_chain hq4 hq4.size hz)
  have HFX := Lib.hid (fun (Z : World) (hz : Below w4.heap.size w4 Z) => pfixed_any Z fr (HT1.out Z (below_chain hq4 hq4.size hz)))
  have HQ0 := Lib.hid (fun (Z : World) (hz : Below w4.heap.size w4 Z) => pbytes_any Q (.slice Aq nq cq) Z (hrq4.up (Nat.le_refl _) hz) hQO.1 hQO.2.1 hQO.2.2.1 hQO.2.2.2.1 hQO.2.2.2.2)
  have HQ1 := Lib.hid (fun (Z : World) (hz : Below w4.heap.size w4 Z) => rpbytes_any Q (.slice Aq nq cq) Z (hrq4.up (Nat.le_refl _) hz) hQO.1 hQO.2.1 hQO.2.2.1 hQO.2.2.2.1 hQO.2.2.2.2)
  have HQ2 := Lib.hid (fun (Z : World) (hz : Below w4.heap.size w4 Z) => rpbytes_any Q (.slice Ar nq cr) Z (hrr4.up (Nat.le_refl _) hz) hQO.1 hQO.2.1 hQO.2.2.1 hQO.2.2.2.1 hQO.2.2.2.2)
  have HX1 := Lib.hid (fun (Z : World) (hz : Below w4.heap.size w4 Z) => rpbytes_any X (.slice Ax nx cx) Z (hrx4.up (Nat.le_refl _) hz) hXO.1 hXO.2.1 hXO.2.2.1 hXO.2.2.2.1 hXO.2.2.2.2)
  have HP1 := Lib.hid (fun (Z : World) (hz : Below w4.heap.size w4 Z) => pbytes_any P (.slice Ad nd cd) Z (HPD.out Z hz) HPO.out.1 HPO.out.2.1 HPO.out.2.2.1 HPO.out.2.2.2.1 HPO.out.2.2.2.2)
  have HP2 := Lib.hid (fun (Z : World) (hz : Below w4.heap.size w4 Z) => rpbytes_any P (.slice Ad nd cd) Z (HPD.out Z hz) HPO.out.1 HPO.out.2.1 HPO.out.2.2.1 HPO.out.2.2.2.1 HPO.out.2.2.2.2)
  have HH1 := Lib.hid (fun (Z : World) (hz : Below w4.heap.size w4 Z) => phash_any P (.slice Ad nd cd) Z (HPD.out Z hz) HPO.out.1 HPO.out.2.1 HPO.out.2.2.1 HPO.out.2.2.2.1 HPO.out.2.2.2.2 fr (HT1.out Z (below_chain hq4 hq4.size hz)))
  have HH2 := Lib.hid (fun (Z : World) (hz : Below w4.heap.size w4 Z) => rphash_any P (.slice Ad nd cd) Z (HPD.out Z hz) HPO.out.1 HPO.out.2.1 HPO.out.2.2.1 HPO.out.2.2.2.1 HPO.out.2.2.2.2 fr2 (HT2.out Z (below_chain hq4 hq4.size hz)))
  have HA1 := Lib.hid (fun (Z : World) (hz : Below w4.heap.size w4 Z) => packh_any (.slice Ab nb cb) l Z (HRD.out Z hz) fr (HT1.out Z (below_chain hq4 hq4.size hz)))
  have HA2 := Lib.hid (fun (Z : World) (hz : Below w4.heap.size w4 Z) => rpackh_any (.slice Ab nb cb) l Z (HRD.out Z hz) fr2 (HT2.out Z (below_chain hq4 hq4.size hz)))
  have HKCommit := Lib.hid (fun W : World => pCommit_any P.src P.seq W HPO.out.2.2.1 (by have := HN.out.1; omega))
  have HJCommit := Lib.hid (fun W : World => rpCommit_any P.src P.seq W HPO.out.2.2.1 (by have := HN.out.1; omega))
  have HKReceipt := Lib.hid (fun W : World => pReceipt_any P.src P.seq W HPO.out.2.2.1 (by have := HN.out.1; omega))
  have HJReceipt := Lib.hid (fun W : World => rpReceipt_any P.src P.seq W HPO.out.2.2.1 (by have := HN.out.1; omega))
  have HKAckKey := Lib.hid (fun W : World => pAckKey_any P.src P.seq W HPO.out.2.2.1 (by have := HN.out.1; omega))
  have HJAckKey := Lib.hid (fun W : World => rpAckKey_any P.src P.seq W HPO.out.2.2.1 (by have := HN.out.1; omega))
  have HKSent := Lib.hid (fun W : World => pSent_any P.src P.seq W HPO.out.2.2.1 (by have := HN.out.1; omega))
  have HJSent := Lib.hid (fun W : World => rpSent_any P.src P.seq W HPO.out.2.2.1 (by have := HN.out.1; omega))
  have HKTold := Lib.hid (fun W : World => pTold_any P.src P.seq W HPO.out.2.2.1 (by have := HN.out.1; omega))
  have HJTold := Lib.hid (fun W : World => rpTold_any P.src P.seq W HPO.out.2.2.1 (by have := HN.out.1; omega))
  generalize kPl wCommit P.src P.seq = SCommit at *
  generalize kPl wReceipt P.src P.seq = SReceipt at *
  generalize kPl wAckKey P.src P.seq = SAckKey at *
  generalize kPl wSent P.src P.seq = SSent at *
  generalize kPl wTold P.src P.seq = STold at *
  have hcs : ∀ (L : List UInt8), ∃ S : ByteArray, ∀ (Z : World) (v : Value), Rd Z Z.heap.size v L → (convert 41 9 v).run Tryd.prog Z = .ok (.string S) Z := fun L => ⟨⟨L.toArray⟩, fun Z v h => run_str Tryd.underlying41 Tryd.underlying5 Tryd.isString h⟩
  obtain ⟨SL, hcl⟩ := hcs l
  obtain ⟨SP, hcp⟩ := hcs (pktB P)
  obtain ⟨SH, hch⟩ := hcs (tagH wPkt [pktB P])
  obtain ⟨SA, hca⟩ := hcs (tagH wAckW [l])
  have HCL := Lib.hid hcl
  have HCP := Lib.hid hcp
  have HCH := Lib.hid hch
  have HCA := Lib.hid hca
  have HCQX : Hid (∃ SQ : ByteArray, (∀ (Z : World) (v : Value), Rd Z Z.heap.size v (pktB Q) → (convert 41 9 v).run Tryd.prog Z = .ok (.string SQ) Z) ∧ (pktB Q = l → SQ = SL)) := by
    by_cases e : pktB Q = l
    · exact Lib.hid ⟨SL, by rw [e]; exact hcl, fun _ => rfl⟩
    · obtain ⟨S, hS⟩ := hcs (pktB Q)
      exact Lib.hid ⟨S, hS, fun k => absurd k e⟩
  obtain ⟨SQ, hcq, hsq⟩ := HCQX.out
  have HCQ := Lib.hid hcq
  have HSQS := Lib.hid hsq
  have hbd : Below w4.heap.size w4 w4.drew := (Below.refl _ _).drew
  have HW : Hid (IntKind.i64.wrap ((P.src.size : Int) + (P.dst.size : Int)) = ((P.src.size + P.dst.size : Nat) : Int) ∧ IntKind.i64.wrap (((P.src.size + P.dst.size : Nat) : Int) + (nd : Int)) = ((P.src.size + P.dst.size + nd : Nat) : Int)) := Lib.hid (by
    obtain ⟨n1, n2, n3⟩ := HN.out
    simp only [IntKind.wrap, IntKind.bits, IntKind.signed]
    constructor <;> (simp; omega))
  clear hcs hcl hcp hch hca hcq hsq HCQX h4 k54 k74 k94 hrq4 hrr4 hrx4 HNQ hQO hXO hXL HRB HRD0 HT1 HT2 HPD
  unfold PktV.val at HQ0 HQ1 HQ2 HX1 HP1 HP2 HH1 HH2
  generalize tagH wPkt [pktB P] = LH at *
  generalize tagH wAckW [l] = LA at *
  go_wp2_with fail
  refine wp_region_held_drew (S := BelS w4.drew) (by kernel_rfl) (BelS.refl _) (fun hS0 => ?_)
  refine wpAnyH_ready (rs := [0]) (by kernel_rfl) (by simp) (AllReadyH.cons rfl (fun K hK => ?_) AllReadyH.nil)
  have DA := Lib.hid (HFX.out w4.drew hbd)
  go_simp
  go_wp2_with ((go_at_call 20; (with_reducible refine DA.out.mono ?_); rintro e wA ⟨rfl, hbA⟩))
  have hqA := below_chain hbd hbd.size hbA
  refine hK.out _ _ hbA (fun _ => ?_)
  clear hK K DA
  refine wpAnyH_stronger (S' := BelS wA) (fun W h => below_chain hbA hbA.size h) _ _ _ _ ?_
  have hSA : BelS wA wA := BelS.refl wA
  refine wpAnyH_take (i := 1) (oi := _) (v := ?_) rfl (by kernel_rfl) (by kernel_rfl) (by kernel_rfl) (fun _ _ _ h => h) (Or.inl ⟨by rfl, ?_⟩) hSA ?_
  rotate_left
  · intro W hSW
    try go_simp
    all_goals with_reducible rfl
  simp only [Act.put, List.setIfInBounds_toArray, List.set_cons_zero, List.set_cons_succ, List.getElem_toArray, List.getElem_cons_zero, List.getElem_cons_succ]
  refine wpAnyH_take (i := 2) (oi := _) (v := ?_) rfl (by kernel_rfl) (by kernel_rfl) (by kernel_rfl) (fun _ _ _ h => h) (Or.inl ⟨by rfl, ?_⟩) hSA ?_
  rotate_left
  · intro W hSW
    try go_simp
    all_goals with_reducible rfl
  simp only [Act.put, List.setIfInBounds_toArray, List.set_cons_zero, List.set_cons_succ, List.getElem_toArray, List.getElem_cons_zero, List.getElem_cons_succ]
  refine wpAnyH_take (i := 3) (oi := _) (v := ?_) rfl (by kernel_rfl) (by kernel_rfl) (by kernel_rfl) (fun _ _ _ h => h) (Or.inl ⟨by rfl, ?_⟩) hSA ?_
  rotate_left
  · intro W hSW
    try go_simp
    all_goals with_reducible rfl
  simp only [Act.put, List.setIfInBounds_toArray, List.set_cons_zero, List.set_cons_succ, List.getElem_toArray, List.getElem_cons_zero, List.getElem_cons_succ]
  refine wpAnyH_take (i := 4) (oi := _) (v := ?_) rfl (by kernel_rfl) (by kernel_rfl) (by kernel_rfl) (fun _ _ _ h => h) (Or.inl ⟨by rfl, ?_⟩) hSA ?_
  rotate_left
  · intro W hSW
    try go_simp
    all_goals with_reducible rfl
  simp only [Act.put, List.setIfInBounds_toArray, List.set_cons_zero, List.set_cons_succ, List.getElem_toArray, List.getElem_cons_zero, List.getElem_cons_succ]
  refine wpAnyH_take (i := 5) (oi := _) (v := ?_) rfl (by kernel_rfl) (by kernel_rfl) (by kernel_rfl) (fun _ _ _ h => h) (Or.inl ⟨by rfl, ?_⟩) hSA ?_
  rotate_left
  · intro W hSW
    try go_simp
    all_goals with_reducible rfl
  simp only [Act.put, List.setIfInBounds_toArray, List.set_cons_zero, List.set_cons_succ, List.getElem_toArray, List.getElem_cons_zero, List.getElem_cons_succ]
  refine wpAnyH_take (i := 6) (oi := _) (v := ?_) rfl (by kernel_rfl) (by kernel_rfl) (by kernel_rfl) (fun _ _ _ h => h) (Or.inl ⟨by rfl, ?_⟩) hSA ?_
  rotate_left
  · intro W hSW
    try go_simp
    all_goals with_reducible rfl
  simp only [Act.put, List.setIfInBounds_toArray, List.set_cons_zero, List.set_cons_succ, List.getElem_toArray, List.getElem_cons_zero, List.getElem_cons_succ]
  refine wpAnyH_take (i := 7) (oi := _) (v := ?_) rfl (by kernel_rfl) (by kernel_rfl) (by kernel_rfl) (fun _ _ _ h => h) (Or.inl ⟨by rfl, ?_⟩) hSA ?_
  rotate_left
  · intro W hSW
    try go_simp
    all_goals with_reducible rfl
  simp only [Act.put, List.setIfInBounds_toArray, List.set_cons_zero, List.set_cons_succ, List.getElem_toArray, List.getElem_cons_zero, List.getElem_cons_succ]
  refine wpAnyH_take (i := 8) (oi := _) (v := ?_) rfl (by kernel_rfl) (by kernel_rfl) (by kernel_rfl) (fun _ _ _ h => h) (Or.inl ⟨by rfl, ?_⟩) hSA ?_
  rotate_left
  · intro W hSW
    obtain ⟨q0, q1, q2, q3, q4, q5⟩ := HQC.out W (below_chain hqA hqA.size hSW)
    try go_simp
    all_goals with_reducible rfl
  simp only [Act.put, List.setIfInBounds_toArray, List.set_cons_zero, List.set_cons_succ, List.getElem_toArray, List.getElem_cons_zero, List.getElem_cons_succ]
  refine wpAnyH_take (i := 11) (oi := _) (v := ?_) rfl (by kernel_rfl) (by kernel_rfl) (by kernel_rfl) (fun _ _ _ h => h) (Or.inl ⟨by rfl, ?_⟩) hSA ?_
  rotate_left
  · intro W hSW
    obtain ⟨r0, r1, r2, r3, r4, r5⟩ := HRC.out W (below_chain hqA hqA.size hSW)
    try go_simp
    all_goals with_reducible rfl
  simp only [Act.put, List.setIfInBounds_toArray, List.set_cons_zero, List.set_cons_succ, List.getElem_toArray, List.getElem_cons_zero, List.getElem_cons_succ]
  refine wpAnyH_ready (rs := [9]) (by kernel_rfl) (by simp) (AllReadyH.cons rfl (fun K hK => ?_) AllReadyH.nil)
  have DB := Lib.hid (HQ1.out wA hqA)
  go_simp
  go_wp2_with ((go_at_call 34; (with_reducible refine DB.out.mono ?_); rintro e wB ⟨vB, rfl, hoB, hbB⟩))
  have hqB := below_chain hqA hqA.size hbB
  refine hK.out _ _ hbB (fun _ => ?_)
  clear hK K DB
  refine wpAnyH_stronger (S' := BelS wB) (fun W h => below_chain hbB hbB.size h) _ _ _ _ ?_
  have hSB : BelS wB wB := BelS.refl wB
  refine wpAnyH_take (i := 10) (oi := _) (v := ?_) rfl (by kernel_rfl) (by kernel_rfl) (by kernel_rfl) (fun _ _ _ h => h) (Or.inl ⟨by rfl, ?_⟩) hSB ?_
  rotate_left
  · intro W hSW
    have cv := HCQ.out W _ (hoB.rd.up (Nat.le_refl _) hSW)
    try go_simp
    all_goals with_reducible rfl
  simp only [Act.put, List.setIfInBounds_toArray, List.set_cons_zero, List.set_cons_succ, List.getElem_toArray, List.getElem_cons_zero, List.getElem_cons_succ]
  refine wpAnyH_ready (rs := [12]) (by kernel_rfl) (by simp) (AllReadyH.cons rfl (fun K hK => ?_) AllReadyH.nil)
  have DC := Lib.hid (HQ2.out wB hqB)
  go_simp
  go_wp2_with ((go_at_call 34; (with_reducible refine DC.out.mono ?_); rintro e wC ⟨vC, rfl, hoC, hbC⟩))
  have hqC := below_chain hqB hqB.size hbC
  refine hK.out _ _ hbC (fun _ => ?_)
  clear hK K DC
  refine wpAnyH_stronger (S' := BelS wC) (fun W h => below_chain hbC hbC.size h) _ _ _ _ ?_
  have hSC : BelS wC wC := BelS.refl wC
  refine wpAnyH_take (i := 13) (oi := _) (v := ?_) rfl (by kernel_rfl) (by kernel_rfl) (by kernel_rfl) (fun _ _ _ h => h) (Or.inl ⟨by rfl, ?_⟩) hSC ?_
  rotate_left
  · intro W hSW
    have cv := HCQ.out W _ (hoC.rd.up (Nat.le_refl _) hSW)
    try go_simp
    all_goals with_reducible rfl
  simp only [Act.put, List.setIfInBounds_toArray, List.set_cons_zero, List.set_cons_succ, List.getElem_toArray, List.getElem_cons_zero, List.getElem_cons_succ]
  refine wpAnyH_take (i := 14) (oi := _) (v := ?_) rfl (by kernel_rfl) (by kernel_rfl) (by kernel_rfl) (fun _ _ _ h => h) (Or.inl ⟨by rfl, ?_⟩) hSC ?_
  rotate_left
  · intro W hSW
    try go_simp
    all_goals with_reducible rfl
  simp only [Act.put, List.setIfInBounds_toArray, List.set_cons_zero, List.set_cons_succ, List.getElem_toArray, List.getElem_cons_zero, List.getElem_cons_succ]
  refine wpAnyH_take (i := 15) (oi := _) (v := ?_) rfl (by kernel_rfl) (by kernel_rfl) (by kernel_rfl) (fun _ _ _ h => h) (Or.inl ⟨by rfl, ?_⟩) hSC ?_
  rotate_left
  · intro W hSW
    try go_simp
    all_goals with_reducible rfl
  simp only [Act.put, List.setIfInBounds_toArray, List.set_cons_zero, List.set_cons_succ, List.getElem_toArray, List.getElem_cons_zero, List.getElem_cons_succ]
  refine wpAnyH_take (i := 16) (oi := _) (v := ?_) rfl (by kernel_rfl) (by kernel_rfl) (by kernel_rfl) (fun _ _ _ h => h) (Or.inl ⟨by rfl, ?_⟩) hSC ?_
  rotate_left
  · intro W hSW
    try go_simp
    all_goals with_reducible rfl
  simp only [Act.put, List.setIfInBounds_toArray, List.set_cons_zero, List.set_cons_succ, List.getElem_toArray, List.getElem_cons_zero, List.getElem_cons_succ]
  refine wpAnyH_take (i := 17) (oi := _) (v := ?_) rfl (by kernel_rfl) (by kernel_rfl) (by kernel_rfl) (fun _ _ _ h => h) (Or.inl ⟨by rfl, ?_⟩) hSC ?_
  rotate_left
  · intro W hSW
    obtain ⟨p0, p1, p2, p3, p4, p5⟩ := HPC.out W (below_chain hqC hqC.size hSW)
    try go_simp
    all_goals with_reducible rfl
  simp only [Act.put, List.setIfInBounds_toArray, List.set_cons_zero, List.set_cons_succ, List.getElem_toArray, List.getElem_cons_zero, List.getElem_cons_succ]
  refine wpAnyH_take (i := 20) (oi := _) (v := ?_) rfl (by kernel_rfl) (by kernel_rfl) (by kernel_rfl) (fun _ _ _ h => h) (Or.inl ⟨by rfl, ?_⟩) hSC ?_
  rotate_left
  · intro W hSW
    obtain ⟨p0, p1, p2, p3, p4, p5⟩ := HPC.out W (below_chain hqC hqC.size hSW)
    try go_simp
    all_goals with_reducible rfl
  simp only [Act.put, List.setIfInBounds_toArray, List.set_cons_zero, List.set_cons_succ, List.getElem_toArray, List.getElem_cons_zero, List.getElem_cons_succ]
  refine wpAnyH_ready (rs := [18]) (by kernel_rfl) (by simp) (AllReadyH.cons rfl (fun K hK => ?_) AllReadyH.nil)
  have DD := Lib.hid (HP1.out wC hqC)
  go_simp
  go_wp2_with ((go_at_call 33; (with_reducible refine DD.out.mono ?_); rintro e wD ⟨vD, rfl, hoD, hbD⟩))
  have hqD := below_chain hqC hqC.size hbD
  refine hK.out _ _ hbD (fun _ => ?_)
  clear hK K DD
  refine wpAnyH_stronger (S' := BelS wD) (fun W h => below_chain hbD hbD.size h) _ _ _ _ ?_
  have hSD : BelS wD wD := BelS.refl wD
  refine wpAnyH_take (i := 19) (oi := _) (v := ?_) rfl (by kernel_rfl) (by kernel_rfl) (by kernel_rfl) (fun _ _ _ h => h) (Or.inl ⟨by rfl, ?_⟩) hSD ?_
  rotate_left
  · intro W hSW
    have cv := HCP.out W _ (hoD.rd.up (Nat.le_refl _) hSW)
    try go_simp
    all_goals with_reducible rfl
  simp only [Act.put, List.setIfInBounds_toArray, List.set_cons_zero, List.set_cons_succ, List.getElem_toArray, List.getElem_cons_zero, List.getElem_cons_succ]
  refine wpAnyH_ready (rs := [21]) (by kernel_rfl) (by simp) (AllReadyH.cons rfl (fun K hK => ?_) AllReadyH.nil)
  have DE := Lib.hid (HP2.out wD hqD)
  go_simp
  go_wp2_with ((go_at_call 34; (with_reducible refine DE.out.mono ?_); rintro e wE ⟨vE, rfl, hoE, hbE⟩))
  have hqE := below_chain hqD hqD.size hbE
  refine hK.out _ _ hbE (fun _ => ?_)
  clear hK K DE
  refine wpAnyH_stronger (S' := BelS wE) (fun W h => below_chain hbE hbE.size h) _ _ _ _ ?_
  have hSE : BelS wE wE := BelS.refl wE
  refine wpAnyH_take (i := 22) (oi := _) (v := ?_) rfl (by kernel_rfl) (by kernel_rfl) (by kernel_rfl) (fun _ _ _ h => h) (Or.inl ⟨by rfl, ?_⟩) hSE ?_
  rotate_left
  · intro W hSW
    have cv := HCP.out W _ (hoE.rd.up (Nat.le_refl _) hSW)
    try go_simp
    all_goals with_reducible rfl
  simp only [Act.put, List.setIfInBounds_toArray, List.set_cons_zero, List.set_cons_succ, List.getElem_toArray, List.getElem_cons_zero, List.getElem_cons_succ]
  refine wpAnyH_take (i := 23) (oi := _) (v := ?_) rfl (by kernel_rfl) (by kernel_rfl) (by kernel_rfl) (fun _ _ _ h => h) (Or.inl ⟨by rfl, ?_⟩) hSE ?_
  rotate_left
  · intro W hSW
    try go_simp
    all_goals with_reducible rfl
  simp only [Act.put, List.setIfInBounds_toArray, List.set_cons_zero, List.set_cons_succ, List.getElem_toArray, List.getElem_cons_zero, List.getElem_cons_succ]
  refine wpAnyH_take (i := 24) (oi := _) (v := ?_) rfl (by kernel_rfl) (by kernel_rfl) (by kernel_rfl) (fun _ _ _ h => h) (Or.inl ⟨by rfl, ?_⟩) hSE ?_
  rotate_left
  · intro W hSW
    try go_simp
    all_goals with_reducible rfl
  simp only [Act.put, List.setIfInBounds_toArray, List.set_cons_zero, List.set_cons_succ, List.getElem_toArray, List.getElem_cons_zero, List.getElem_cons_succ]
  refine wpAnyH_take (i := 25) (oi := _) (v := ?_) rfl (by kernel_rfl) (by kernel_rfl) (by kernel_rfl) (fun _ _ _ h => h) (Or.inl ⟨by rfl, ?_⟩) hSE ?_
  rotate_left
  · intro W hSW
    try go_simp
    all_goals with_reducible rfl
  simp only [Act.put, List.setIfInBounds_toArray, List.set_cons_zero, List.set_cons_succ, List.getElem_toArray, List.getElem_cons_zero, List.getElem_cons_succ]
  refine wpAnyH_take (i := 26) (oi := _) (v := ?_) rfl (by kernel_rfl) (by kernel_rfl) (by kernel_rfl) (fun _ _ _ h => h) (Or.inl ⟨by rfl, ?_⟩) hSE ?_
  rotate_left
  · intro W hSW
    obtain ⟨p0, p1, p2, p3, p4, p5⟩ := HPC.out W (below_chain hqE hqE.size hSW)
    try go_simp
    all_goals with_reducible rfl
  simp only [Act.put, List.setIfInBounds_toArray, List.set_cons_zero, List.set_cons_succ, List.getElem_toArray, List.getElem_cons_zero, List.getElem_cons_succ]
  refine wpAnyH_take (i := 29) (oi := _) (v := ?_) rfl (by kernel_rfl) (by kernel_rfl) (by kernel_rfl) (fun _ _ _ h => h) (Or.inl ⟨by rfl, ?_⟩) hSE ?_
  rotate_left
  · intro W hSW
    obtain ⟨p0, p1, p2, p3, p4, p5⟩ := HPC.out W (below_chain hqE hqE.size hSW)
    try go_simp
    all_goals with_reducible rfl
  simp only [Act.put, List.setIfInBounds_toArray, List.set_cons_zero, List.set_cons_succ, List.getElem_toArray, List.getElem_cons_zero, List.getElem_cons_succ]
  refine wpAnyH_ready (rs := [27]) (by kernel_rfl) (by simp) (AllReadyH.cons rfl (fun K hK => ?_) AllReadyH.nil)
  have DF := Lib.hid (HH1.out wE hqE)
  go_simp
  go_wp2_with ((go_at_call 35; (with_reducible refine DF.out.mono ?_); rintro e wF ⟨vF, rfl, hoF, hbF⟩))
  have hqF := below_chain hqE hqE.size hbF
  refine hK.out _ _ hbF (fun _ => ?_)
  clear hK K DF
  refine wpAnyH_stronger (S' := BelS wF) (fun W h => below_chain hbF hbF.size h) _ _ _ _ ?_
  have hSF : BelS wF wF := BelS.refl wF
  refine wpAnyH_take (i := 28) (oi := _) (v := ?_) rfl (by kernel_rfl) (by kernel_rfl) (by kernel_rfl) (fun _ _ _ h => h) (Or.inl ⟨by rfl, ?_⟩) hSF ?_
  rotate_left
  · intro W hSW
    have cv := HCH.out W _ (hoF.rd.up (Nat.le_refl _) hSW)
    try go_simp
    all_goals with_reducible rfl
  simp only [Act.put, List.setIfInBounds_toArray, List.set_cons_zero, List.set_cons_succ, List.getElem_toArray, List.getElem_cons_zero, List.getElem_cons_succ]
  refine wpAnyH_ready (rs := [30]) (by kernel_rfl) (by simp) (AllReadyH.cons rfl (fun K hK => ?_) AllReadyH.nil)
  have DG := Lib.hid (HH2.out wF hqF)
  go_simp
  go_wp2_with ((go_at_call 36; (with_reducible refine DG.out.mono ?_); rintro e wG ⟨vG, rfl, hoG, hbG⟩))
  have hqG := below_chain hqF hqF.size hbG
  refine hK.out _ _ hbG (fun _ => ?_)
  clear hK K DG
  refine wpAnyH_stronger (S' := BelS wG) (fun W h => below_chain hbG hbG.size h) _ _ _ _ ?_
  have hSG : BelS wG wG := BelS.refl wG
  refine wpAnyH_take (i := 31) (oi := _) (v := ?_) rfl (by kernel_rfl) (by kernel_rfl) (by kernel_rfl) (fun _ _ _ h => h) (Or.inl ⟨by rfl, ?_⟩) hSG ?_
  rotate_left
  · intro W hSW
    have cv := HCH.out W _ (hoG.rd.up (Nat.le_refl _) hSW)
    try go_simp
    all_goals with_reducible rfl
  simp only [Act.put, List.setIfInBounds_toArray, List.set_cons_zero, List.set_cons_succ, List.getElem_toArray, List.getElem_cons_zero, List.getElem_cons_succ]
  refine wpAnyH_take (i := 32) (oi := _) (v := ?_) rfl (by kernel_rfl) (by kernel_rfl) (by kernel_rfl) (fun _ _ _ h => h) (Or.inl ⟨by rfl, ?_⟩) hSG ?_
  rotate_left
  · intro W hSW
    try go_simp
    all_goals with_reducible rfl
  simp only [Act.put, List.setIfInBounds_toArray, List.set_cons_zero, List.set_cons_succ, List.getElem_toArray, List.getElem_cons_zero, List.getElem_cons_succ]
  refine wpAnyH_take (i := 33) (oi := _) (v := ?_) rfl (by kernel_rfl) (by kernel_rfl) (by kernel_rfl) (fun _ _ _ h => h) (Or.inl ⟨by rfl, ?_⟩) hSG ?_
  rotate_left
  · intro W hSW
    try go_simp
    all_goals with_reducible rfl
  simp only [Act.put, List.setIfInBounds_toArray, List.set_cons_zero, List.set_cons_succ, List.getElem_toArray, List.getElem_cons_zero, List.getElem_cons_succ]
  refine wpAnyH_take (i := 34) (oi := _) (v := ?_) rfl (by kernel_rfl) (by kernel_rfl) (by kernel_rfl) (fun _ _ _ h => h) (Or.inl ⟨by rfl, ?_⟩) hSG ?_
  rotate_left
  · intro W hSW
    try go_simp
    all_goals with_reducible rfl
  simp only [Act.put, List.setIfInBounds_toArray, List.set_cons_zero, List.set_cons_succ, List.getElem_toArray, List.getElem_cons_zero, List.getElem_cons_succ]
  refine wpAnyH_take (i := 35) (oi := _) (v := ?_) rfl (by kernel_rfl) (by kernel_rfl) (by kernel_rfl) (fun _ _ _ h => h) (Or.inl ⟨by rfl, ?_⟩) hSG ?_
  rotate_left
  · intro W hSW
    try go_simp
    all_goals with_reducible rfl
  simp only [Act.put, List.setIfInBounds_toArray, List.set_cons_zero, List.set_cons_succ, List.getElem_toArray, List.getElem_cons_zero, List.getElem_cons_succ]
  refine wpAnyH_take (i := 38) (oi := _) (v := ?_) rfl (by kernel_rfl) (by kernel_rfl) (by kernel_rfl) (fun _ _ _ h => h) (Or.inl ⟨by rfl, ?_⟩) hSG ?_
  rotate_left
  · intro W hSW
    try go_simp
    all_goals with_reducible rfl
  simp only [Act.put, List.setIfInBounds_toArray, List.set_cons_zero, List.set_cons_succ, List.getElem_toArray, List.getElem_cons_zero, List.getElem_cons_succ]
  refine wpAnyH_ready (rs := [36]) (by kernel_rfl) (by simp) (AllReadyH.cons rfl (fun K hK => ?_) AllReadyH.nil)
  have DH := Lib.hid (HA1.out wG hqG)
  go_simp
  go_wp2_with ((go_at_call 37; (with_reducible refine DH.out.mono ?_); rintro e wH ⟨vH, rfl, hoH, hbH⟩))
  have hqH := below_chain hqG hqG.size hbH
  refine hK.out _ _ hbH (fun _ => ?_)
  clear hK K DH
  refine wpAnyH_stronger (S' := BelS wH) (fun W h => below_chain hbH hbH.size h) _ _ _ _ ?_
  have hSH : BelS wH wH := BelS.refl wH
  refine wpAnyH_take (i := 37) (oi := _) (v := ?_) rfl (by kernel_rfl) (by kernel_rfl) (by kernel_rfl) (fun _ _ _ h => h) (Or.inl ⟨by rfl, ?_⟩) hSH ?_
  rotate_left
  · intro W hSW
    have cv := HCA.out W _ (hoH.rd.up (Nat.le_refl _) hSW)
    try go_simp
    all_goals with_reducible rfl
  simp only [Act.put, List.setIfInBounds_toArray, List.set_cons_zero, List.set_cons_succ, List.getElem_toArray, List.getElem_cons_zero, List.getElem_cons_succ]
  refine wpAnyH_ready (rs := [39]) (by kernel_rfl) (by simp) (AllReadyH.cons rfl (fun K hK => ?_) AllReadyH.nil)
  have DJ := Lib.hid (HA2.out wH hqH)
  go_simp
  go_wp2_with ((go_at_call 38; (with_reducible refine DJ.out.mono ?_); rintro e wJ ⟨vJ, rfl, hoJ, hbJ⟩))
  have hqJ := below_chain hqH hqH.size hbJ
  refine hK.out _ _ hbJ (fun _ => ?_)
  clear hK K DJ
  refine wpAnyH_stronger (S' := BelS wJ) (fun W h => below_chain hbJ hbJ.size h) _ _ _ _ ?_
  have hSJ : BelS wJ wJ := BelS.refl wJ
  refine wpAnyH_take (i := 40) (oi := _) (v := ?_) rfl (by kernel_rfl) (by kernel_rfl) (by kernel_rfl) (fun _ _ _ h => h) (Or.inl ⟨by rfl, ?_⟩) hSJ ?_
  rotate_left
  · intro W hSW
    have cv := HCA.out W _ (hoJ.rd.up (Nat.le_refl _) hSW)
    try go_simp
    all_goals with_reducible rfl
  simp only [Act.put, List.setIfInBounds_toArray, List.set_cons_zero, List.set_cons_succ, List.getElem_toArray, List.getElem_cons_zero, List.getElem_cons_succ]
  refine wpAnyH_take (i := 41) (oi := _) (v := ?_) rfl (by kernel_rfl) (by kernel_rfl) (by kernel_rfl) (fun _ _ _ h => h) (Or.inl ⟨by rfl, ?_⟩) hSJ ?_
  rotate_left
  · intro W hSW
    try go_simp
    all_goals with_reducible rfl
  simp only [Act.put, List.setIfInBounds_toArray, List.set_cons_zero, List.set_cons_succ, List.getElem_toArray, List.getElem_cons_zero, List.getElem_cons_succ]
  refine wpAnyH_take (i := 42) (oi := _) (v := ?_) rfl (by kernel_rfl) (by kernel_rfl) (by kernel_rfl) (fun _ _ _ h => h) (Or.inl ⟨by rfl, ?_⟩) hSJ ?_
  rotate_left
  · intro W hSW
    try go_simp
    all_goals with_reducible rfl
  simp only [Act.put, List.setIfInBounds_toArray, List.set_cons_zero, List.set_cons_succ, List.getElem_toArray, List.getElem_cons_zero, List.getElem_cons_succ]
  refine wpAnyH_done (by kernel_rfl) ?_ _
  have hb5 := hqJ
  generalize wJ = w5 at *
  have hb6 : Below w4.heap.size w4 w5.drew := hb5.drew
  have h41 := HW.out.1
  have HW1 := Lib.hid h41
  have h42 := HW.out.2
  have HW2 := Lib.hid h42
  clear h41 h42
  obtain rfl := HSQ.out
  have hlen := HLEN.out
  obtain ⟨rfl, hxp⟩ := HSX.out hlen
  obtain rfl := hxp.symm
  have HLT := Lib.hid (show ((P.src.size + P.dst.size + nd : Nat) : Int) < 65000 by omega)
  have HLT2 := Lib.hid (show decide (((P.src.size + P.dst.size + nd : Nat) : Int) < 65000) = true from decide_eq_true (by omega))
  have HLT3 := Lib.hid (show P.src.size + P.dst.size + nd < 65000 from hlen)
  have HLT4 : Hid (IntKind.i64.wrap ((P.src.size : Int) + (P.dst.size : Int) + (nd : Int)) < 65000) := Lib.hid (by
    have e : ((P.src.size : Int) + (P.dst.size : Int)) = ((P.src.size + P.dst.size : Nat) : Int) := by omega
    rw [e, HW.out.2]
    omega)
  clear hlen HSQ HSX HLEN HSQS
  go_wp2_with fail
  refine wp_region_held_drew (S := BelS w5.drew) (by kernel_rfl) (BelS.refl _) (fun hS0 => ?_)
  refine wpAnyH_take (i := 0) (oi := _) (v := ?_) rfl (by kernel_rfl) (by kernel_rfl) (by kernel_rfl) (fun _ _ _ h => h) (Or.inl ⟨by rfl, ?_⟩) hS0 ?_
  rotate_left
  · intro W hSW
    try go_simp
    all_goals with_reducible rfl
  simp only [Act.put, List.setIfInBounds_toArray, List.set_cons_zero, List.set_cons_succ, List.getElem_toArray, List.getElem_cons_zero, List.getElem_cons_succ]
  refine wpAnyH_take (i := 1) (oi := _) (v := ?_) rfl (by kernel_rfl) (by kernel_rfl) (by kernel_rfl) (fun _ _ _ h => h) (Or.inl ⟨by rfl, ?_⟩) hS0 ?_
  rotate_left
  · intro W hSW
    try go_simp
    all_goals with_reducible rfl
  simp only [Act.put, List.setIfInBounds_toArray, List.set_cons_zero, List.set_cons_succ, List.getElem_toArray, List.getElem_cons_zero, List.getElem_cons_succ]
  refine wpAnyH_take (i := 2) (oi := _) (v := ?_) rfl (by kernel_rfl) (by kernel_rfl) (by kernel_rfl) (fun _ _ _ h => h) (Or.inl ⟨by rfl, ?_⟩) hS0 ?_
  rotate_left
  · intro W hSW
    try go_simp
    all_goals with_reducible rfl
  simp only [Act.put, List.setIfInBounds_toArray, List.set_cons_zero, List.set_cons_succ, List.getElem_toArray, List.getElem_cons_zero, List.getElem_cons_succ]
  refine wpAnyH_take (i := 3) (oi := _) (v := undef) rfl (by kernel_rfl) (by kernel_rfl) (by kernel_rfl) (fun _ _ _ h => h) (Or.inr ⟨by rfl, rfl⟩) hS0 ?_
  simp only [Act.put, List.setIfInBounds_toArray, List.set_cons_zero, List.set_cons_succ, List.getElem_toArray, List.getElem_cons_zero, List.getElem_cons_succ]
  refine wpAnyH_take (i := 4) (oi := _) (v := undef) rfl (by kernel_rfl) (by kernel_rfl) (by kernel_rfl) (fun _ _ _ h => h) (Or.inr ⟨by rfl, rfl⟩) hS0 ?_
  simp only [Act.put, List.setIfInBounds_toArray, List.set_cons_zero, List.set_cons_succ, List.getElem_toArray, List.getElem_cons_zero, List.getElem_cons_succ]
  refine wpAnyH_take (i := 5) (oi := _) (v := undef) rfl (by kernel_rfl) (by kernel_rfl) (by kernel_rfl) (fun _ _ _ h => h) (Or.inr ⟨by rfl, rfl⟩) hS0 ?_
  simp only [Act.put, List.setIfInBounds_toArray, List.set_cons_zero, List.set_cons_succ, List.getElem_toArray, List.getElem_cons_zero, List.getElem_cons_succ]
  refine wpAnyH_take (i := 6) (oi := _) (v := undef) rfl (by kernel_rfl) (by kernel_rfl) (by kernel_rfl) (fun _ _ _ h => h) (Or.inr ⟨by rfl, rfl⟩) hS0 ?_
  simp only [Act.put, List.setIfInBounds_toArray, List.set_cons_zero, List.set_cons_succ, List.getElem_toArray, List.getElem_cons_zero, List.getElem_cons_succ]
  refine wpAnyH_take (i := 7) (oi := _) (v := undef) rfl (by kernel_rfl) (by kernel_rfl) (by kernel_rfl) (fun _ _ _ h => h) (Or.inr ⟨by rfl, rfl⟩) hS0 ?_
  simp only [Act.put, List.setIfInBounds_toArray, List.set_cons_zero, List.set_cons_succ, List.getElem_toArray, List.getElem_cons_zero, List.getElem_cons_succ]
  refine wpAnyH_take (i := 8) (oi := _) (v := undef) rfl (by kernel_rfl) (by kernel_rfl) (by kernel_rfl) (fun _ _ _ h => h) (Or.inr ⟨by rfl, rfl⟩) hS0 ?_
  simp only [Act.put, List.setIfInBounds_toArray, List.set_cons_zero, List.set_cons_succ, List.getElem_toArray, List.getElem_cons_zero, List.getElem_cons_succ]
  refine wpAnyH_take (i := 9) (oi := _) (v := ?_) rfl (by kernel_rfl) (by kernel_rfl) (by kernel_rfl) (fun _ _ _ h => h) (Or.inl ⟨by rfl, ?_⟩) hS0 ?_
  rotate_left
  · intro W hSW
    try go_simp
    all_goals with_reducible rfl
  simp only [Act.put, List.setIfInBounds_toArray, List.set_cons_zero, List.set_cons_succ, List.getElem_toArray, List.getElem_cons_zero, List.getElem_cons_succ]
  refine wpAnyH_take (i := 10) (oi := _) (v := ?_) rfl (by kernel_rfl) (by kernel_rfl) (by kernel_rfl) (fun _ _ _ h => h) (Or.inl ⟨by rfl, ?_⟩) hS0 ?_
  rotate_left
  · intro W hSW
    try go_simp
    all_goals with_reducible rfl
  simp only [Act.put, List.setIfInBounds_toArray, List.set_cons_zero, List.set_cons_succ, List.getElem_toArray, List.getElem_cons_zero, List.getElem_cons_succ]
  refine wpAnyH_take (i := 11) (oi := _) (v := ?_) rfl (by kernel_rfl) (by kernel_rfl) (by kernel_rfl) (fun _ _ _ h => h) (Or.inl ⟨by rfl, ?_⟩) hS0 ?_
  rotate_left
  · intro W hSW
    try go_simp
    all_goals with_reducible rfl
  simp only [Act.put, List.setIfInBounds_toArray, List.set_cons_zero, List.set_cons_succ, List.getElem_toArray, List.getElem_cons_zero, List.getElem_cons_succ]
  refine wpAnyH_take (i := 12) (oi := _) (v := ?_) rfl (by kernel_rfl) (by kernel_rfl) (by kernel_rfl) (fun _ _ _ h => h) (Or.inl ⟨by rfl, ?_⟩) hS0 ?_
  rotate_left
  · intro W hSW
    obtain ⟨p0, p1, p2, p3, p4, p5⟩ := HPC.out W (below_chain hb6 hb6.size hSW)
    try go_simp
    all_goals with_reducible rfl
  simp only [Act.put, List.setIfInBounds_toArray, List.set_cons_zero, List.set_cons_succ, List.getElem_toArray, List.getElem_cons_zero, List.getElem_cons_succ]
  refine wpAnyH_take (i := 13) (oi := _) (v := ?_) rfl (by kernel_rfl) (by kernel_rfl) (by kernel_rfl) (fun _ _ _ h => h) (Or.inl ⟨by rfl, ?_⟩) hS0 ?_
  rotate_left
  · intro W hSW
    try go_simp
    all_goals with_reducible rfl
  simp only [Act.put, List.setIfInBounds_toArray, List.set_cons_zero, List.set_cons_succ, List.getElem_toArray, List.getElem_cons_zero, List.getElem_cons_succ]
  refine wpAnyH_take (i := 14) (oi := _) (v := ?_) rfl (by kernel_rfl) (by kernel_rfl) (by kernel_rfl) (fun _ _ _ h => h) (Or.inl ⟨by rfl, ?_⟩) hS0 ?_
  rotate_left
  · intro W hSW
    try go_simp
    all_goals with_reducible rfl
  simp only [Act.put, List.setIfInBounds_toArray, List.set_cons_zero, List.set_cons_succ, List.getElem_toArray, List.getElem_cons_zero, List.getElem_cons_succ]
  refine wpAnyH_take (i := 15) (oi := _) (v := ?_) rfl (by kernel_rfl) (by kernel_rfl) (by kernel_rfl) (fun _ _ _ h => h) (Or.inl ⟨by rfl, ?_⟩) hS0 ?_
  rotate_left
  · intro W hSW
    obtain ⟨p0, p1, p2, p3, p4, p5⟩ := HPC.out W (below_chain hb6 hb6.size hSW)
    try go_simp
    all_goals with_reducible rfl
  simp only [Act.put, List.setIfInBounds_toArray, List.set_cons_zero, List.set_cons_succ, List.getElem_toArray, List.getElem_cons_zero, List.getElem_cons_succ]
  refine wpAnyH_take (i := 16) (oi := _) (v := ?_) rfl (by kernel_rfl) (by kernel_rfl) (by kernel_rfl) (fun _ _ _ h => h) (Or.inl ⟨by rfl, ?_⟩) hS0 ?_
  rotate_left
  · intro W hSW
    try go_simp
    all_goals with_reducible rfl
  simp only [Act.put, List.setIfInBounds_toArray, List.set_cons_zero, List.set_cons_succ, List.getElem_toArray, List.getElem_cons_zero, List.getElem_cons_succ]
  refine wpAnyH_take (i := 17) (oi := _) (v := ?_) rfl (by kernel_rfl) (by kernel_rfl) (by kernel_rfl) (fun _ _ _ h => h) (Or.inl ⟨by rfl, ?_⟩) hS0 ?_
  rotate_left
  · intro W hSW
    have hw := HW1.out
    try go_simp
    all_goals with_reducible rfl
  simp only [Act.put, List.setIfInBounds_toArray, List.set_cons_zero, List.set_cons_succ, List.getElem_toArray, List.getElem_cons_zero, List.getElem_cons_succ]
  refine wpAnyH_take (i := 18) (oi := _) (v := ?_) rfl (by kernel_rfl) (by kernel_rfl) (by kernel_rfl) (fun _ _ _ h => h) (Or.inl ⟨by rfl, ?_⟩) hS0 ?_
  rotate_left
  · intro W hSW
    try go_simp
    all_goals with_reducible rfl
  simp only [Act.put, List.setIfInBounds_toArray, List.set_cons_zero, List.set_cons_succ, List.getElem_toArray, List.getElem_cons_zero, List.getElem_cons_succ]
  refine wpAnyH_take (i := 19) (oi := _) (v := ?_) rfl (by kernel_rfl) (by kernel_rfl) (by kernel_rfl) (fun _ _ _ h => h) (Or.inl ⟨by rfl, ?_⟩) hS0 ?_
  rotate_left
  · intro W hSW
    obtain ⟨p0, p1, p2, p3, p4, p5⟩ := HPC.out W (below_chain hb6 hb6.size hSW)
    try go_simp
    all_goals with_reducible rfl
  simp only [Act.put, List.setIfInBounds_toArray, List.set_cons_zero, List.set_cons_succ, List.getElem_toArray, List.getElem_cons_zero, List.getElem_cons_succ]
  refine wpAnyH_take (i := 20) (oi := _) (v := ?_) rfl (by kernel_rfl) (by kernel_rfl) (by kernel_rfl) (fun _ _ _ h => h) (Or.inl ⟨by rfl, ?_⟩) hS0 ?_
  rotate_left
  · intro W hSW
    try go_simp
    all_goals with_reducible rfl
  simp only [Act.put, List.setIfInBounds_toArray, List.set_cons_zero, List.set_cons_succ, List.getElem_toArray, List.getElem_cons_zero, List.getElem_cons_succ]
  refine wpAnyH_take (i := 21) (oi := _) (v := ?_) rfl (by kernel_rfl) (by kernel_rfl) (by kernel_rfl) (fun _ _ _ h => h) (Or.inl ⟨by rfl, ?_⟩) hS0 ?_
  rotate_left
  · intro W hSW
    have hw := HW2.out
    try go_simp
    all_goals with_reducible rfl
  simp only [Act.put, List.setIfInBounds_toArray, List.set_cons_zero, List.set_cons_succ, List.getElem_toArray, List.getElem_cons_zero, List.getElem_cons_succ]
  refine wpAnyH_take (i := 22) (oi := _) (v := .bool true) rfl (by kernel_rfl) (by kernel_rfl) (by kernel_rfl) (fun _ _ _ h => h) (Or.inl ⟨by rfl, ?_⟩) hS0 ?_
  skip
  · intro W hSW
    have hlt := HLT.out
    have hlt2 := HLT2.out
    have hlt3 := HLT3.out
    try go_simp
    all_goals first | exact HLT4.out | with_reducible rfl | (simp only [hlt, hlt2]; with_reducible rfl) | (simp [hlt, hlt2]; done) | trace_state
  simp only [Act.put, List.setIfInBounds_toArray, List.set_cons_zero, List.set_cons_succ, List.getElem_toArray, List.getElem_cons_zero, List.getElem_cons_succ]
  refine wpAnyH_take (i := 23) (oi := _) (v := ?_) rfl (by kernel_rfl) (by kernel_rfl) (by kernel_rfl) (fun _ _ _ h => h) (Or.inl ⟨by rfl, ?_⟩) hS0 ?_
  rotate_left
  · intro W hSW
    try go_simp
    all_goals with_reducible rfl
  simp only [Act.put, List.setIfInBounds_toArray, List.set_cons_zero, List.set_cons_succ, List.getElem_toArray, List.getElem_cons_zero, List.getElem_cons_succ]
  refine wpAnyH_take (i := 24) (oi := _) (v := ?_) rfl (by kernel_rfl) (by kernel_rfl) (by kernel_rfl) (fun _ _ _ h => h) (Or.inl ⟨by rfl, ?_⟩) hS0 ?_
  rotate_left
  · intro W hSW
    try go_simp
    all_goals with_reducible rfl
  simp only [Act.put, List.setIfInBounds_toArray, List.set_cons_zero, List.set_cons_succ, List.getElem_toArray, List.getElem_cons_zero, List.getElem_cons_succ]
  refine wpAnyH_take (i := 25) (oi := _) (v := ?_) rfl (by kernel_rfl) (by kernel_rfl) (by kernel_rfl) (fun _ _ _ h => h) (Or.inl ⟨by rfl, ?_⟩) hS0 ?_
  rotate_left
  · intro W hSW
    try go_simp
    all_goals with_reducible rfl
  simp only [Act.put, List.setIfInBounds_toArray, List.set_cons_zero, List.set_cons_succ, List.getElem_toArray, List.getElem_cons_zero, List.getElem_cons_succ]
  refine wpAnyH_take (i := 26) (oi := _) (v := ?_) rfl (by kernel_rfl) (by kernel_rfl) (by kernel_rfl) (fun _ _ _ h => h) (Or.inl ⟨by rfl, ?_⟩) hS0 ?_
  rotate_left
  · intro W hSW
    try go_simp
    all_goals with_reducible rfl
  simp only [Act.put, List.setIfInBounds_toArray, List.set_cons_zero, List.set_cons_succ, List.getElem_toArray, List.getElem_cons_zero, List.getElem_cons_succ]
  refine wpAnyH_take (i := 27) (oi := _) (v := ?_) rfl (by kernel_rfl) (by kernel_rfl) (by kernel_rfl) (fun _ _ _ h => h) (Or.inl ⟨by rfl, ?_⟩) hS0 ?_
  rotate_left
  · intro W hSW
    obtain ⟨x0, x1, x2, x3, x4, x5⟩ := HXC.out W (below_chain hb6 hb6.size hSW)
    try go_simp
    all_goals with_reducible rfl
  simp only [Act.put, List.setIfInBounds_toArray, List.set_cons_zero, List.set_cons_succ, List.getElem_toArray, List.getElem_cons_zero, List.getElem_cons_succ]
  refine wpAnyH_take (i := 30) (oi := _) (v := ?_) rfl (by kernel_rfl) (by kernel_rfl) (by kernel_rfl) (fun _ _ _ h => h) (Or.inl ⟨by rfl, ?_⟩) hS0 ?_
  rotate_left
  · intro W hSW
    obtain ⟨p0, p1, p2, p3, p4, p5⟩ := HPC.out W (below_chain hb6 hb6.size hSW)
    try go_simp
    all_goals with_reducible rfl
  simp only [Act.put, List.setIfInBounds_toArray, List.set_cons_zero, List.set_cons_succ, List.getElem_toArray, List.getElem_cons_zero, List.getElem_cons_succ]
  refine wpAnyH_ready (rs := [28]) (by kernel_rfl) (by simp) (AllReadyH.cons rfl (fun K hK => ?_) AllReadyH.nil)
  have DL := Lib.hid (HX1.out w5.drew hb6)
  go_simp
  go_wp2_with ((go_at_call 34; (with_reducible refine DL.out.mono ?_); rintro e wL ⟨vL, rfl, hoL, hbL⟩))
  have hqL := below_chain hb6 hb6.size hbL
  refine hK.out _ _ hbL (fun _ => ?_)
  clear hK K DL
  refine wpAnyH_stronger (S' := BelS wL) (fun W h => below_chain hbL hbL.size h) _ _ _ _ ?_
  have hSL : BelS wL wL := BelS.refl wL
  refine wpAnyH_take (i := 29) (oi := _) (v := ?_) rfl (by kernel_rfl) (by kernel_rfl) (by kernel_rfl) (fun _ _ _ h => h) (Or.inl ⟨by rfl, ?_⟩) hSL ?_
  rotate_left
  · intro W hSW
    have cv := HCP.out W _ (hoL.rd.up (Nat.le_refl _) hSW)
    try go_simp
    all_goals with_reducible rfl
  simp only [Act.put, List.setIfInBounds_toArray, List.set_cons_zero, List.set_cons_succ, List.getElem_toArray, List.getElem_cons_zero, List.getElem_cons_succ]
  refine wpAnyH_ready (rs := [31]) (by kernel_rfl) (by simp) (AllReadyH.cons rfl (fun K hK => ?_) AllReadyH.nil)
  have DM := Lib.hid (HP2.out wL hqL)
  go_simp
  go_wp2_with ((go_at_call 34; (with_reducible refine DM.out.mono ?_); rintro e wM ⟨vM, rfl, hoM, hbM⟩))
  have hqM := below_chain hqL hqL.size hbM
  refine hK.out _ _ hbM (fun _ => ?_)
  clear hK K DM
  refine wpAnyH_stronger (S' := BelS wM) (fun W h => below_chain hbM hbM.size h) _ _ _ _ ?_
  have hSM : BelS wM wM := BelS.refl wM
  refine wpAnyH_take (i := 32) (oi := _) (v := ?_) rfl (by kernel_rfl) (by kernel_rfl) (by kernel_rfl) (fun _ _ _ h => h) (Or.inl ⟨by rfl, ?_⟩) hSM ?_
  rotate_left
  · intro W hSW
    have cv := HCP.out W _ (hoM.rd.up (Nat.le_refl _) hSW)
    try go_simp
    all_goals with_reducible rfl
  simp only [Act.put, List.setIfInBounds_toArray, List.set_cons_zero, List.set_cons_succ, List.getElem_toArray, List.getElem_cons_zero, List.getElem_cons_succ]
  refine wpAnyH_take (i := 33) (oi := _) (v := ?_) rfl (by kernel_rfl) (by kernel_rfl) (by kernel_rfl) (fun _ _ _ h => h) (Or.inl ⟨by rfl, ?_⟩) hSM ?_
  rotate_left
  · intro W hSW
    try go_simp
    all_goals with_reducible rfl
  simp only [Act.put, List.setIfInBounds_toArray, List.set_cons_zero, List.set_cons_succ, List.getElem_toArray, List.getElem_cons_zero, List.getElem_cons_succ]
  refine wpAnyH_take (i := 34) (oi := _) (v := ?_) rfl (by kernel_rfl) (by kernel_rfl) (by kernel_rfl) (fun _ _ _ h => h) (Or.inl ⟨by rfl, ?_⟩) hSM ?_
  rotate_left
  · intro W hSW
    try go_simp
    all_goals with_reducible rfl
  simp only [Act.put, List.setIfInBounds_toArray, List.set_cons_zero, List.set_cons_succ, List.getElem_toArray, List.getElem_cons_zero, List.getElem_cons_succ]
  refine wpAnyH_take (i := 35) (oi := _) (v := ?_) rfl (by kernel_rfl) (by kernel_rfl) (by kernel_rfl) (fun _ _ _ h => h) (Or.inl ⟨by rfl, ?_⟩) hSM ?_
  rotate_left
  · intro W hSW
    try go_simp
    all_goals with_reducible rfl
  simp only [Act.put, List.setIfInBounds_toArray, List.set_cons_zero, List.set_cons_succ, List.getElem_toArray, List.getElem_cons_zero, List.getElem_cons_succ]
  refine wpAnyH_take (i := 36) (oi := _) (v := ?_) rfl (by kernel_rfl) (by kernel_rfl) (by kernel_rfl) (fun _ _ _ h => h) (Or.inl ⟨by rfl, ?_⟩) hSM ?_
  rotate_left
  · intro W hSW
    try go_simp
    all_goals with_reducible rfl
  simp only [Act.put, List.setIfInBounds_toArray, List.set_cons_zero, List.set_cons_succ, List.getElem_toArray, List.getElem_cons_zero, List.getElem_cons_succ]
  refine wpAnyH_done (by kernel_rfl) ?_ _
  have hb8 : Below w4.heap.size w4 wM.drew := (hqM).drew
  go_wp2_with fail
  refine wp_region_held_drew (S := BelS wM.drew) (by kernel_rfl) (BelS.refl _) (fun hS0 => ?_)
  refine wpAnyH_take (i := 0) (oi := _) (v := ?_) rfl (by kernel_rfl) (by kernel_rfl) (by kernel_rfl) (fun _ _ _ h => h) (Or.inl ⟨by rfl, ?_⟩) hS0 ?_
  rotate_left
  · intro W hSW
    try go_simp
    all_goals with_reducible rfl
  simp only [Act.put, List.setIfInBounds_toArray, List.set_cons_zero, List.set_cons_succ, List.getElem_toArray, List.getElem_cons_zero, List.getElem_cons_succ]
  refine wpAnyH_take (i := 1) (oi := _) (v := ?_) rfl (by kernel_rfl) (by kernel_rfl) (by kernel_rfl) (fun _ _ _ h => h) (Or.inl ⟨by rfl, ?_⟩) hS0 ?_
  rotate_left
  · intro W hSW
    obtain ⟨p0, p1, p2, p3, p4, p5⟩ := HPC.out W (below_chain hb8 hb8.size hSW)
    try go_simp
    all_goals with_reducible rfl
  simp only [Act.put, List.setIfInBounds_toArray, List.set_cons_zero, List.set_cons_succ, List.getElem_toArray, List.getElem_cons_zero, List.getElem_cons_succ]
  refine wpAnyH_take (i := 2) (oi := _) (v := ?_) rfl (by kernel_rfl) (by kernel_rfl) (by kernel_rfl) (fun _ _ _ h => h) (Or.inl ⟨by rfl, ?_⟩) hS0 ?_
  rotate_left
  · intro W hSW
    try go_simp
    all_goals with_reducible rfl
  simp only [Act.put, List.setIfInBounds_toArray, List.set_cons_zero, List.set_cons_succ, List.getElem_toArray, List.getElem_cons_zero, List.getElem_cons_succ]
  refine wpAnyH_take (i := 3) (oi := _) (v := ?_) rfl (by kernel_rfl) (by kernel_rfl) (by kernel_rfl) (fun _ _ _ h => h) (Or.inl ⟨by rfl, ?_⟩) hS0 ?_
  rotate_left
  · intro W hSW
    obtain ⟨p0, p1, p2, p3, p4, p5⟩ := HPC.out W (below_chain hb8 hb8.size hSW)
    try go_simp
    all_goals with_reducible rfl
  simp only [Act.put, List.setIfInBounds_toArray, List.set_cons_zero, List.set_cons_succ, List.getElem_toArray, List.getElem_cons_zero, List.getElem_cons_succ]
  refine wpAnyH_take (i := 5) (oi := _) (v := ?_) rfl (by kernel_rfl) (by kernel_rfl) (by kernel_rfl) (fun _ _ _ h => h) (Or.inl ⟨by rfl, ?_⟩) hS0 ?_
  rotate_left
  · intro W hSW
    try go_simp
    all_goals with_reducible rfl
  simp only [Act.put, List.setIfInBounds_toArray, List.set_cons_zero, List.set_cons_succ, List.getElem_toArray, List.getElem_cons_zero, List.getElem_cons_succ]
  refine wpAnyH_take (i := 6) (oi := _) (v := ?_) rfl (by kernel_rfl) (by kernel_rfl) (by kernel_rfl) (fun _ _ _ h => h) (Or.inl ⟨by rfl, ?_⟩) hS0 ?_
  rotate_left
  · intro W hSW
    obtain ⟨p0, p1, p2, p3, p4, p5⟩ := HPC.out W (below_chain hb8 hb8.size hSW)
    try go_simp
    all_goals with_reducible rfl
  simp only [Act.put, List.setIfInBounds_toArray, List.set_cons_zero, List.set_cons_succ, List.getElem_toArray, List.getElem_cons_zero, List.getElem_cons_succ]
  refine wpAnyH_take (i := 7) (oi := _) (v := ?_) rfl (by kernel_rfl) (by kernel_rfl) (by kernel_rfl) (fun _ _ _ h => h) (Or.inl ⟨by rfl, ?_⟩) hS0 ?_
  rotate_left
  · intro W hSW
    try go_simp
    all_goals with_reducible rfl
  simp only [Act.put, List.setIfInBounds_toArray, List.set_cons_zero, List.set_cons_succ, List.getElem_toArray, List.getElem_cons_zero, List.getElem_cons_succ]
  refine wpAnyH_take (i := 8) (oi := _) (v := ?_) rfl (by kernel_rfl) (by kernel_rfl) (by kernel_rfl) (fun _ _ _ h => h) (Or.inl ⟨by rfl, ?_⟩) hS0 ?_
  rotate_left
  · intro W hSW
    obtain ⟨p0, p1, p2, p3, p4, p5⟩ := HPC.out W (below_chain hb8 hb8.size hSW)
    try go_simp
    all_goals with_reducible rfl
  simp only [Act.put, List.setIfInBounds_toArray, List.set_cons_zero, List.set_cons_succ, List.getElem_toArray, List.getElem_cons_zero, List.getElem_cons_succ]
  refine wpAnyH_ready (rs := [4]) (by kernel_rfl) (by simp) (AllReadyH.cons rfl (fun K hK => ?_) AllReadyH.nil)
  have Da0 := Lib.hid (HKCommit.out wM.drew)
  go_simp
  go_wp2_with ((go_at_call 21; (with_reducible refine Da0.out.mono ?_); rintro e wa0 ⟨rfl, hba0⟩))
  have hqa0 := below_chain hb8 hb8.size hba0
  refine hK.out _ _ hba0 (fun _ => ?_)
  clear hK K Da0
  refine wpAnyH_stronger (S' := BelS wa0) (fun W h => below_chain hba0 hba0.size h) _ _ _ _ ?_
  have hSa0 : BelS wa0 wa0 := BelS.refl wa0
  refine wpAnyH_ready (rs := [9]) (by kernel_rfl) (by simp) (AllReadyH.cons rfl (fun K hK => ?_) AllReadyH.nil)
  have Db0 := Lib.hid (HJCommit.out wa0)
  go_simp
  go_wp2_with ((go_at_call 22; (with_reducible refine Db0.out.mono ?_); rintro e wb0 ⟨rfl, hbb0⟩))
  have hqb0 := below_chain hqa0 hqa0.size hbb0
  refine hK.out _ _ hbb0 (fun _ => ?_)
  clear hK K Db0
  refine wpAnyH_stronger (S' := BelS wb0) (fun W h => below_chain hbb0 hbb0.size h) _ _ _ _ ?_
  have hSb0 : BelS wb0 wb0 := BelS.refl wb0
  refine wpAnyH_take (i := 10) (oi := _) (v := ?_) rfl (by kernel_rfl) (by kernel_rfl) (by kernel_rfl) (fun _ _ _ h => h) (Or.inl ⟨by rfl, ?_⟩) hSb0 ?_
  rotate_left
  · intro W hSW
    try go_simp
    all_goals with_reducible rfl
  simp only [Act.put, List.setIfInBounds_toArray, List.set_cons_zero, List.set_cons_succ, List.getElem_toArray, List.getElem_cons_zero, List.getElem_cons_succ]
  refine wpAnyH_take (i := 11) (oi := _) (v := ?_) rfl (by kernel_rfl) (by kernel_rfl) (by kernel_rfl) (fun _ _ _ h => h) (Or.inl ⟨by rfl, ?_⟩) hSb0 ?_
  rotate_left
  · intro W hSW
    try go_simp
    all_goals with_reducible rfl
  simp only [Act.put, List.setIfInBounds_toArray, List.set_cons_zero, List.set_cons_succ, List.getElem_toArray, List.getElem_cons_zero, List.getElem_cons_succ]
  refine wpAnyH_take (i := 12) (oi := _) (v := ?_) rfl (by kernel_rfl) (by kernel_rfl) (by kernel_rfl) (fun _ _ _ h => h) (Or.inl ⟨by rfl, ?_⟩) hSb0 ?_
  rotate_left
  · intro W hSW
    try go_simp
    all_goals with_reducible rfl
  simp only [Act.put, List.setIfInBounds_toArray, List.set_cons_zero, List.set_cons_succ, List.getElem_toArray, List.getElem_cons_zero, List.getElem_cons_succ]
  refine wpAnyH_take (i := 13) (oi := _) (v := ?_) rfl (by kernel_rfl) (by kernel_rfl) (by kernel_rfl) (fun _ _ _ h => h) (Or.inl ⟨by rfl, ?_⟩) hSb0 ?_
  rotate_left
  · intro W hSW
    obtain ⟨p0, p1, p2, p3, p4, p5⟩ := HPC.out W (below_chain hqb0 hqb0.size hSW)
    try go_simp
    all_goals with_reducible rfl
  simp only [Act.put, List.setIfInBounds_toArray, List.set_cons_zero, List.set_cons_succ, List.getElem_toArray, List.getElem_cons_zero, List.getElem_cons_succ]
  refine wpAnyH_take (i := 14) (oi := _) (v := ?_) rfl (by kernel_rfl) (by kernel_rfl) (by kernel_rfl) (fun _ _ _ h => h) (Or.inl ⟨by rfl, ?_⟩) hSb0 ?_
  rotate_left
  · intro W hSW
    try go_simp
    all_goals with_reducible rfl
  simp only [Act.put, List.setIfInBounds_toArray, List.set_cons_zero, List.set_cons_succ, List.getElem_toArray, List.getElem_cons_zero, List.getElem_cons_succ]
  refine wpAnyH_take (i := 15) (oi := _) (v := ?_) rfl (by kernel_rfl) (by kernel_rfl) (by kernel_rfl) (fun _ _ _ h => h) (Or.inl ⟨by rfl, ?_⟩) hSb0 ?_
  rotate_left
  · intro W hSW
    obtain ⟨p0, p1, p2, p3, p4, p5⟩ := HPC.out W (below_chain hqb0 hqb0.size hSW)
    try go_simp
    all_goals with_reducible rfl
  simp only [Act.put, List.setIfInBounds_toArray, List.set_cons_zero, List.set_cons_succ, List.getElem_toArray, List.getElem_cons_zero, List.getElem_cons_succ]
  refine wpAnyH_take (i := 17) (oi := _) (v := ?_) rfl (by kernel_rfl) (by kernel_rfl) (by kernel_rfl) (fun _ _ _ h => h) (Or.inl ⟨by rfl, ?_⟩) hSb0 ?_
  rotate_left
  · intro W hSW
    try go_simp
    all_goals with_reducible rfl
  simp only [Act.put, List.setIfInBounds_toArray, List.set_cons_zero, List.set_cons_succ, List.getElem_toArray, List.getElem_cons_zero, List.getElem_cons_succ]
  refine wpAnyH_take (i := 18) (oi := _) (v := ?_) rfl (by kernel_rfl) (by kernel_rfl) (by kernel_rfl) (fun _ _ _ h => h) (Or.inl ⟨by rfl, ?_⟩) hSb0 ?_
  rotate_left
  · intro W hSW
    obtain ⟨p0, p1, p2, p3, p4, p5⟩ := HPC.out W (below_chain hqb0 hqb0.size hSW)
    try go_simp
    all_goals with_reducible rfl
  simp only [Act.put, List.setIfInBounds_toArray, List.set_cons_zero, List.set_cons_succ, List.getElem_toArray, List.getElem_cons_zero, List.getElem_cons_succ]
  refine wpAnyH_take (i := 19) (oi := _) (v := ?_) rfl (by kernel_rfl) (by kernel_rfl) (by kernel_rfl) (fun _ _ _ h => h) (Or.inl ⟨by rfl, ?_⟩) hSb0 ?_
  rotate_left
  · intro W hSW
    try go_simp
    all_goals with_reducible rfl
  simp only [Act.put, List.setIfInBounds_toArray, List.set_cons_zero, List.set_cons_succ, List.getElem_toArray, List.getElem_cons_zero, List.getElem_cons_succ]
  refine wpAnyH_take (i := 20) (oi := _) (v := ?_) rfl (by kernel_rfl) (by kernel_rfl) (by kernel_rfl) (fun _ _ _ h => h) (Or.inl ⟨by rfl, ?_⟩) hSb0 ?_
  rotate_left
  · intro W hSW
    obtain ⟨p0, p1, p2, p3, p4, p5⟩ := HPC.out W (below_chain hqb0 hqb0.size hSW)
    try go_simp
    all_goals with_reducible rfl
  simp only [Act.put, List.setIfInBounds_toArray, List.set_cons_zero, List.set_cons_succ, List.getElem_toArray, List.getElem_cons_zero, List.getElem_cons_succ]
  refine wpAnyH_ready (rs := [16]) (by kernel_rfl) (by simp) (AllReadyH.cons rfl (fun K hK => ?_) AllReadyH.nil)
  have Da1 := Lib.hid (HKReceipt.out wb0)
  go_simp
  go_wp2_with ((go_at_call 23; (with_reducible refine Da1.out.mono ?_); rintro e wa1 ⟨rfl, hba1⟩))
  have hqa1 := below_chain hqb0 hqb0.size hba1
  refine hK.out _ _ hba1 (fun _ => ?_)
  clear hK K Da1
  refine wpAnyH_stronger (S' := BelS wa1) (fun W h => below_chain hba1 hba1.size h) _ _ _ _ ?_
  have hSa1 : BelS wa1 wa1 := BelS.refl wa1
  refine wpAnyH_ready (rs := [21]) (by kernel_rfl) (by simp) (AllReadyH.cons rfl (fun K hK => ?_) AllReadyH.nil)
  have Db1 := Lib.hid (HJReceipt.out wa1)
  go_simp
  go_wp2_with ((go_at_call 24; (with_reducible refine Db1.out.mono ?_); rintro e wb1 ⟨rfl, hbb1⟩))
  have hqb1 := below_chain hqa1 hqa1.size hbb1
  refine hK.out _ _ hbb1 (fun _ => ?_)
  clear hK K Db1
  refine wpAnyH_stronger (S' := BelS wb1) (fun W h => below_chain hbb1 hbb1.size h) _ _ _ _ ?_
  have hSb1 : BelS wb1 wb1 := BelS.refl wb1
  refine wpAnyH_take (i := 22) (oi := _) (v := ?_) rfl (by kernel_rfl) (by kernel_rfl) (by kernel_rfl) (fun _ _ _ h => h) (Or.inl ⟨by rfl, ?_⟩) hSb1 ?_
  rotate_left
  · intro W hSW
    try go_simp
    all_goals with_reducible rfl
  simp only [Act.put, List.setIfInBounds_toArray, List.set_cons_zero, List.set_cons_succ, List.getElem_toArray, List.getElem_cons_zero, List.getElem_cons_succ]
  refine wpAnyH_take (i := 23) (oi := _) (v := ?_) rfl (by kernel_rfl) (by kernel_rfl) (by kernel_rfl) (fun _ _ _ h => h) (Or.inl ⟨by rfl, ?_⟩) hSb1 ?_
  rotate_left
  · intro W hSW
    try go_simp
    all_goals with_reducible rfl
  simp only [Act.put, List.setIfInBounds_toArray, List.set_cons_zero, List.set_cons_succ, List.getElem_toArray, List.getElem_cons_zero, List.getElem_cons_succ]
  refine wpAnyH_take (i := 24) (oi := _) (v := ?_) rfl (by kernel_rfl) (by kernel_rfl) (by kernel_rfl) (fun _ _ _ h => h) (Or.inl ⟨by rfl, ?_⟩) hSb1 ?_
  rotate_left
  · intro W hSW
    try go_simp
    all_goals with_reducible rfl
  simp only [Act.put, List.setIfInBounds_toArray, List.set_cons_zero, List.set_cons_succ, List.getElem_toArray, List.getElem_cons_zero, List.getElem_cons_succ]
  refine wpAnyH_take (i := 25) (oi := _) (v := ?_) rfl (by kernel_rfl) (by kernel_rfl) (by kernel_rfl) (fun _ _ _ h => h) (Or.inl ⟨by rfl, ?_⟩) hSb1 ?_
  rotate_left
  · intro W hSW
    try go_simp
    all_goals with_reducible rfl
  simp only [Act.put, List.setIfInBounds_toArray, List.set_cons_zero, List.set_cons_succ, List.getElem_toArray, List.getElem_cons_zero, List.getElem_cons_succ]
  refine wpAnyH_take (i := 26) (oi := _) (v := ?_) rfl (by kernel_rfl) (by kernel_rfl) (by kernel_rfl) (fun _ _ _ h => h) (Or.inl ⟨by rfl, ?_⟩) hSb1 ?_
  rotate_left
  · intro W hSW
    obtain ⟨p0, p1, p2, p3, p4, p5⟩ := HPC.out W (below_chain hqb1 hqb1.size hSW)
    try go_simp
    all_goals with_reducible rfl
  simp only [Act.put, List.setIfInBounds_toArray, List.set_cons_zero, List.set_cons_succ, List.getElem_toArray, List.getElem_cons_zero, List.getElem_cons_succ]
  refine wpAnyH_take (i := 27) (oi := _) (v := ?_) rfl (by kernel_rfl) (by kernel_rfl) (by kernel_rfl) (fun _ _ _ h => h) (Or.inl ⟨by rfl, ?_⟩) hSb1 ?_
  rotate_left
  · intro W hSW
    try go_simp
    all_goals with_reducible rfl
  simp only [Act.put, List.setIfInBounds_toArray, List.set_cons_zero, List.set_cons_succ, List.getElem_toArray, List.getElem_cons_zero, List.getElem_cons_succ]
  refine wpAnyH_take (i := 28) (oi := _) (v := ?_) rfl (by kernel_rfl) (by kernel_rfl) (by kernel_rfl) (fun _ _ _ h => h) (Or.inl ⟨by rfl, ?_⟩) hSb1 ?_
  rotate_left
  · intro W hSW
    obtain ⟨p0, p1, p2, p3, p4, p5⟩ := HPC.out W (below_chain hqb1 hqb1.size hSW)
    try go_simp
    all_goals with_reducible rfl
  simp only [Act.put, List.setIfInBounds_toArray, List.set_cons_zero, List.set_cons_succ, List.getElem_toArray, List.getElem_cons_zero, List.getElem_cons_succ]
  refine wpAnyH_take (i := 30) (oi := _) (v := ?_) rfl (by kernel_rfl) (by kernel_rfl) (by kernel_rfl) (fun _ _ _ h => h) (Or.inl ⟨by rfl, ?_⟩) hSb1 ?_
  rotate_left
  · intro W hSW
    try go_simp
    all_goals with_reducible rfl
  simp only [Act.put, List.setIfInBounds_toArray, List.set_cons_zero, List.set_cons_succ, List.getElem_toArray, List.getElem_cons_zero, List.getElem_cons_succ]
  refine wpAnyH_take (i := 31) (oi := _) (v := ?_) rfl (by kernel_rfl) (by kernel_rfl) (by kernel_rfl) (fun _ _ _ h => h) (Or.inl ⟨by rfl, ?_⟩) hSb1 ?_
  rotate_left
  · intro W hSW
    obtain ⟨p0, p1, p2, p3, p4, p5⟩ := HPC.out W (below_chain hqb1 hqb1.size hSW)
    try go_simp
    all_goals with_reducible rfl
  simp only [Act.put, List.setIfInBounds_toArray, List.set_cons_zero, List.set_cons_succ, List.getElem_toArray, List.getElem_cons_zero, List.getElem_cons_succ]
  refine wpAnyH_take (i := 32) (oi := _) (v := ?_) rfl (by kernel_rfl) (by kernel_rfl) (by kernel_rfl) (fun _ _ _ h => h) (Or.inl ⟨by rfl, ?_⟩) hSb1 ?_
  rotate_left
  · intro W hSW
    try go_simp
    all_goals with_reducible rfl
  simp only [Act.put, List.setIfInBounds_toArray, List.set_cons_zero, List.set_cons_succ, List.getElem_toArray, List.getElem_cons_zero, List.getElem_cons_succ]
  refine wpAnyH_take (i := 33) (oi := _) (v := ?_) rfl (by kernel_rfl) (by kernel_rfl) (by kernel_rfl) (fun _ _ _ h => h) (Or.inl ⟨by rfl, ?_⟩) hSb1 ?_
  rotate_left
  · intro W hSW
    obtain ⟨p0, p1, p2, p3, p4, p5⟩ := HPC.out W (below_chain hqb1 hqb1.size hSW)
    try go_simp
    all_goals with_reducible rfl
  simp only [Act.put, List.setIfInBounds_toArray, List.set_cons_zero, List.set_cons_succ, List.getElem_toArray, List.getElem_cons_zero, List.getElem_cons_succ]
  refine wpAnyH_ready (rs := [29]) (by kernel_rfl) (by simp) (AllReadyH.cons rfl (fun K hK => ?_) AllReadyH.nil)
  have Da2 := Lib.hid (HKAckKey.out wb1)
  go_simp
  go_wp2_with ((go_at_call 25; (with_reducible refine Da2.out.mono ?_); rintro e wa2 ⟨rfl, hba2⟩))
  have hqa2 := below_chain hqb1 hqb1.size hba2
  refine hK.out _ _ hba2 (fun _ => ?_)
  clear hK K Da2
  refine wpAnyH_stronger (S' := BelS wa2) (fun W h => below_chain hba2 hba2.size h) _ _ _ _ ?_
  have hSa2 : BelS wa2 wa2 := BelS.refl wa2
  refine wpAnyH_ready (rs := [34]) (by kernel_rfl) (by simp) (AllReadyH.cons rfl (fun K hK => ?_) AllReadyH.nil)
  have Db2 := Lib.hid (HJAckKey.out wa2)
  go_simp
  go_wp2_with ((go_at_call 26; (with_reducible refine Db2.out.mono ?_); rintro e wb2 ⟨rfl, hbb2⟩))
  have hqb2 := below_chain hqa2 hqa2.size hbb2
  refine hK.out _ _ hbb2 (fun _ => ?_)
  clear hK K Db2
  refine wpAnyH_stronger (S' := BelS wb2) (fun W h => below_chain hbb2 hbb2.size h) _ _ _ _ ?_
  have hSb2 : BelS wb2 wb2 := BelS.refl wb2
  refine wpAnyH_take (i := 35) (oi := _) (v := ?_) rfl (by kernel_rfl) (by kernel_rfl) (by kernel_rfl) (fun _ _ _ h => h) (Or.inl ⟨by rfl, ?_⟩) hSb2 ?_
  rotate_left
  · intro W hSW
    try go_simp
    all_goals with_reducible rfl
  simp only [Act.put, List.setIfInBounds_toArray, List.set_cons_zero, List.set_cons_succ, List.getElem_toArray, List.getElem_cons_zero, List.getElem_cons_succ]
  refine wpAnyH_take (i := 36) (oi := _) (v := ?_) rfl (by kernel_rfl) (by kernel_rfl) (by kernel_rfl) (fun _ _ _ h => h) (Or.inl ⟨by rfl, ?_⟩) hSb2 ?_
  rotate_left
  · intro W hSW
    try go_simp
    all_goals with_reducible rfl
  simp only [Act.put, List.setIfInBounds_toArray, List.set_cons_zero, List.set_cons_succ, List.getElem_toArray, List.getElem_cons_zero, List.getElem_cons_succ]
  refine wpAnyH_take (i := 37) (oi := _) (v := ?_) rfl (by kernel_rfl) (by kernel_rfl) (by kernel_rfl) (fun _ _ _ h => h) (Or.inl ⟨by rfl, ?_⟩) hSb2 ?_
  rotate_left
  · intro W hSW
    try go_simp
    all_goals with_reducible rfl
  simp only [Act.put, List.setIfInBounds_toArray, List.set_cons_zero, List.set_cons_succ, List.getElem_toArray, List.getElem_cons_zero, List.getElem_cons_succ]
  refine wpAnyH_take (i := 38) (oi := _) (v := ?_) rfl (by kernel_rfl) (by kernel_rfl) (by kernel_rfl) (fun _ _ _ h => h) (Or.inl ⟨by rfl, ?_⟩) hSb2 ?_
  rotate_left
  · intro W hSW
    try go_simp
    all_goals with_reducible rfl
  simp only [Act.put, List.setIfInBounds_toArray, List.set_cons_zero, List.set_cons_succ, List.getElem_toArray, List.getElem_cons_zero, List.getElem_cons_succ]
  refine wpAnyH_take (i := 39) (oi := _) (v := ?_) rfl (by kernel_rfl) (by kernel_rfl) (by kernel_rfl) (fun _ _ _ h => h) (Or.inl ⟨by rfl, ?_⟩) hSb2 ?_
  rotate_left
  · intro W hSW
    obtain ⟨p0, p1, p2, p3, p4, p5⟩ := HPC.out W (below_chain hqb2 hqb2.size hSW)
    try go_simp
    all_goals with_reducible rfl
  simp only [Act.put, List.setIfInBounds_toArray, List.set_cons_zero, List.set_cons_succ, List.getElem_toArray, List.getElem_cons_zero, List.getElem_cons_succ]
  refine wpAnyH_take (i := 40) (oi := _) (v := ?_) rfl (by kernel_rfl) (by kernel_rfl) (by kernel_rfl) (fun _ _ _ h => h) (Or.inl ⟨by rfl, ?_⟩) hSb2 ?_
  rotate_left
  · intro W hSW
    try go_simp
    all_goals with_reducible rfl
  simp only [Act.put, List.setIfInBounds_toArray, List.set_cons_zero, List.set_cons_succ, List.getElem_toArray, List.getElem_cons_zero, List.getElem_cons_succ]
  refine wpAnyH_take (i := 41) (oi := _) (v := ?_) rfl (by kernel_rfl) (by kernel_rfl) (by kernel_rfl) (fun _ _ _ h => h) (Or.inl ⟨by rfl, ?_⟩) hSb2 ?_
  rotate_left
  · intro W hSW
    obtain ⟨p0, p1, p2, p3, p4, p5⟩ := HPC.out W (below_chain hqb2 hqb2.size hSW)
    try go_simp
    all_goals with_reducible rfl
  simp only [Act.put, List.setIfInBounds_toArray, List.set_cons_zero, List.set_cons_succ, List.getElem_toArray, List.getElem_cons_zero, List.getElem_cons_succ]
  refine wpAnyH_take (i := 43) (oi := _) (v := ?_) rfl (by kernel_rfl) (by kernel_rfl) (by kernel_rfl) (fun _ _ _ h => h) (Or.inl ⟨by rfl, ?_⟩) hSb2 ?_
  rotate_left
  · intro W hSW
    try go_simp
    all_goals with_reducible rfl
  simp only [Act.put, List.setIfInBounds_toArray, List.set_cons_zero, List.set_cons_succ, List.getElem_toArray, List.getElem_cons_zero, List.getElem_cons_succ]
  refine wpAnyH_take (i := 44) (oi := _) (v := ?_) rfl (by kernel_rfl) (by kernel_rfl) (by kernel_rfl) (fun _ _ _ h => h) (Or.inl ⟨by rfl, ?_⟩) hSb2 ?_
  rotate_left
  · intro W hSW
    obtain ⟨p0, p1, p2, p3, p4, p5⟩ := HPC.out W (below_chain hqb2 hqb2.size hSW)
    try go_simp
    all_goals with_reducible rfl
  simp only [Act.put, List.setIfInBounds_toArray, List.set_cons_zero, List.set_cons_succ, List.getElem_toArray, List.getElem_cons_zero, List.getElem_cons_succ]
  refine wpAnyH_take (i := 45) (oi := _) (v := ?_) rfl (by kernel_rfl) (by kernel_rfl) (by kernel_rfl) (fun _ _ _ h => h) (Or.inl ⟨by rfl, ?_⟩) hSb2 ?_
  rotate_left
  · intro W hSW
    try go_simp
    all_goals with_reducible rfl
  simp only [Act.put, List.setIfInBounds_toArray, List.set_cons_zero, List.set_cons_succ, List.getElem_toArray, List.getElem_cons_zero, List.getElem_cons_succ]
  refine wpAnyH_take (i := 46) (oi := _) (v := ?_) rfl (by kernel_rfl) (by kernel_rfl) (by kernel_rfl) (fun _ _ _ h => h) (Or.inl ⟨by rfl, ?_⟩) hSb2 ?_
  rotate_left
  · intro W hSW
    obtain ⟨p0, p1, p2, p3, p4, p5⟩ := HPC.out W (below_chain hqb2 hqb2.size hSW)
    try go_simp
    all_goals with_reducible rfl
  simp only [Act.put, List.setIfInBounds_toArray, List.set_cons_zero, List.set_cons_succ, List.getElem_toArray, List.getElem_cons_zero, List.getElem_cons_succ]
  refine wpAnyH_ready (rs := [42]) (by kernel_rfl) (by simp) (AllReadyH.cons rfl (fun K hK => ?_) AllReadyH.nil)
  have Da3 := Lib.hid (HKSent.out wb2)
  go_simp
  go_wp2_with ((go_at_call 27; (with_reducible refine Da3.out.mono ?_); rintro e wa3 ⟨rfl, hba3⟩))
  have hqa3 := below_chain hqb2 hqb2.size hba3
  refine hK.out _ _ hba3 (fun _ => ?_)
  clear hK K Da3
  refine wpAnyH_stronger (S' := BelS wa3) (fun W h => below_chain hba3 hba3.size h) _ _ _ _ ?_
  have hSa3 : BelS wa3 wa3 := BelS.refl wa3
  refine wpAnyH_ready (rs := [47]) (by kernel_rfl) (by simp) (AllReadyH.cons rfl (fun K hK => ?_) AllReadyH.nil)
  have Db3 := Lib.hid (HJSent.out wa3)
  go_simp
  go_wp2_with ((go_at_call 28; (with_reducible refine Db3.out.mono ?_); rintro e wb3 ⟨rfl, hbb3⟩))
  have hqb3 := below_chain hqa3 hqa3.size hbb3
  refine hK.out _ _ hbb3 (fun _ => ?_)
  clear hK K Db3
  refine wpAnyH_stronger (S' := BelS wb3) (fun W h => below_chain hbb3 hbb3.size h) _ _ _ _ ?_
  have hSb3 : BelS wb3 wb3 := BelS.refl wb3
  refine wpAnyH_take (i := 48) (oi := _) (v := ?_) rfl (by kernel_rfl) (by kernel_rfl) (by kernel_rfl) (fun _ _ _ h => h) (Or.inl ⟨by rfl, ?_⟩) hSb3 ?_
  rotate_left
  · intro W hSW
    try go_simp
    all_goals with_reducible rfl
  simp only [Act.put, List.setIfInBounds_toArray, List.set_cons_zero, List.set_cons_succ, List.getElem_toArray, List.getElem_cons_zero, List.getElem_cons_succ]
  refine wpAnyH_take (i := 49) (oi := _) (v := ?_) rfl (by kernel_rfl) (by kernel_rfl) (by kernel_rfl) (fun _ _ _ h => h) (Or.inl ⟨by rfl, ?_⟩) hSb3 ?_
  rotate_left
  · intro W hSW
    try go_simp
    all_goals with_reducible rfl
  simp only [Act.put, List.setIfInBounds_toArray, List.set_cons_zero, List.set_cons_succ, List.getElem_toArray, List.getElem_cons_zero, List.getElem_cons_succ]
  refine wpAnyH_take (i := 50) (oi := _) (v := ?_) rfl (by kernel_rfl) (by kernel_rfl) (by kernel_rfl) (fun _ _ _ h => h) (Or.inl ⟨by rfl, ?_⟩) hSb3 ?_
  rotate_left
  · intro W hSW
    try go_simp
    all_goals with_reducible rfl
  simp only [Act.put, List.setIfInBounds_toArray, List.set_cons_zero, List.set_cons_succ, List.getElem_toArray, List.getElem_cons_zero, List.getElem_cons_succ]
  refine wpAnyH_take (i := 51) (oi := _) (v := ?_) rfl (by kernel_rfl) (by kernel_rfl) (by kernel_rfl) (fun _ _ _ h => h) (Or.inl ⟨by rfl, ?_⟩) hSb3 ?_
  rotate_left
  · intro W hSW
    try go_simp
    all_goals with_reducible rfl
  simp only [Act.put, List.setIfInBounds_toArray, List.set_cons_zero, List.set_cons_succ, List.getElem_toArray, List.getElem_cons_zero, List.getElem_cons_succ]
  refine wpAnyH_take (i := 52) (oi := _) (v := ?_) rfl (by kernel_rfl) (by kernel_rfl) (by kernel_rfl) (fun _ _ _ h => h) (Or.inl ⟨by rfl, ?_⟩) hSb3 ?_
  rotate_left
  · intro W hSW
    obtain ⟨p0, p1, p2, p3, p4, p5⟩ := HPC.out W (below_chain hqb3 hqb3.size hSW)
    try go_simp
    all_goals with_reducible rfl
  simp only [Act.put, List.setIfInBounds_toArray, List.set_cons_zero, List.set_cons_succ, List.getElem_toArray, List.getElem_cons_zero, List.getElem_cons_succ]
  refine wpAnyH_take (i := 53) (oi := _) (v := ?_) rfl (by kernel_rfl) (by kernel_rfl) (by kernel_rfl) (fun _ _ _ h => h) (Or.inl ⟨by rfl, ?_⟩) hSb3 ?_
  rotate_left
  · intro W hSW
    try go_simp
    all_goals with_reducible rfl
  simp only [Act.put, List.setIfInBounds_toArray, List.set_cons_zero, List.set_cons_succ, List.getElem_toArray, List.getElem_cons_zero, List.getElem_cons_succ]
  refine wpAnyH_take (i := 54) (oi := _) (v := ?_) rfl (by kernel_rfl) (by kernel_rfl) (by kernel_rfl) (fun _ _ _ h => h) (Or.inl ⟨by rfl, ?_⟩) hSb3 ?_
  rotate_left
  · intro W hSW
    obtain ⟨p0, p1, p2, p3, p4, p5⟩ := HPC.out W (below_chain hqb3 hqb3.size hSW)
    try go_simp
    all_goals with_reducible rfl
  simp only [Act.put, List.setIfInBounds_toArray, List.set_cons_zero, List.set_cons_succ, List.getElem_toArray, List.getElem_cons_zero, List.getElem_cons_succ]
  refine wpAnyH_take (i := 56) (oi := _) (v := ?_) rfl (by kernel_rfl) (by kernel_rfl) (by kernel_rfl) (fun _ _ _ h => h) (Or.inl ⟨by rfl, ?_⟩) hSb3 ?_
  rotate_left
  · intro W hSW
    try go_simp
    all_goals with_reducible rfl
  simp only [Act.put, List.setIfInBounds_toArray, List.set_cons_zero, List.set_cons_succ, List.getElem_toArray, List.getElem_cons_zero, List.getElem_cons_succ]
  refine wpAnyH_take (i := 57) (oi := _) (v := ?_) rfl (by kernel_rfl) (by kernel_rfl) (by kernel_rfl) (fun _ _ _ h => h) (Or.inl ⟨by rfl, ?_⟩) hSb3 ?_
  rotate_left
  · intro W hSW
    obtain ⟨p0, p1, p2, p3, p4, p5⟩ := HPC.out W (below_chain hqb3 hqb3.size hSW)
    try go_simp
    all_goals with_reducible rfl
  simp only [Act.put, List.setIfInBounds_toArray, List.set_cons_zero, List.set_cons_succ, List.getElem_toArray, List.getElem_cons_zero, List.getElem_cons_succ]
  refine wpAnyH_take (i := 58) (oi := _) (v := ?_) rfl (by kernel_rfl) (by kernel_rfl) (by kernel_rfl) (fun _ _ _ h => h) (Or.inl ⟨by rfl, ?_⟩) hSb3 ?_
  rotate_left
  · intro W hSW
    try go_simp
    all_goals with_reducible rfl
  simp only [Act.put, List.setIfInBounds_toArray, List.set_cons_zero, List.set_cons_succ, List.getElem_toArray, List.getElem_cons_zero, List.getElem_cons_succ]
  refine wpAnyH_take (i := 59) (oi := _) (v := ?_) rfl (by kernel_rfl) (by kernel_rfl) (by kernel_rfl) (fun _ _ _ h => h) (Or.inl ⟨by rfl, ?_⟩) hSb3 ?_
  rotate_left
  · intro W hSW
    obtain ⟨p0, p1, p2, p3, p4, p5⟩ := HPC.out W (below_chain hqb3 hqb3.size hSW)
    try go_simp
    all_goals with_reducible rfl
  simp only [Act.put, List.setIfInBounds_toArray, List.set_cons_zero, List.set_cons_succ, List.getElem_toArray, List.getElem_cons_zero, List.getElem_cons_succ]
  refine wpAnyH_ready (rs := [55]) (by kernel_rfl) (by simp) (AllReadyH.cons rfl (fun K hK => ?_) AllReadyH.nil)
  have Da4 := Lib.hid (HKTold.out wb3)
  go_simp
  go_wp2_with ((go_at_call 29; (with_reducible refine Da4.out.mono ?_); rintro e wa4 ⟨rfl, hba4⟩))
  have hqa4 := below_chain hqb3 hqb3.size hba4
  refine hK.out _ _ hba4 (fun _ => ?_)
  clear hK K Da4
  refine wpAnyH_stronger (S' := BelS wa4) (fun W h => below_chain hba4 hba4.size h) _ _ _ _ ?_
  have hSa4 : BelS wa4 wa4 := BelS.refl wa4
  refine wpAnyH_ready (rs := [60]) (by kernel_rfl) (by simp) (AllReadyH.cons rfl (fun K hK => ?_) AllReadyH.nil)
  have Db4 := Lib.hid (HJTold.out wa4)
  go_simp
  go_wp2_with ((go_at_call 30; (with_reducible refine Db4.out.mono ?_); rintro e wb4 ⟨rfl, hbb4⟩))
  have hqb4 := below_chain hqa4 hqa4.size hbb4
  refine hK.out _ _ hbb4 (fun _ => ?_)
  clear hK K Db4
  refine wpAnyH_stronger (S' := BelS wb4) (fun W h => below_chain hbb4 hbb4.size h) _ _ _ _ ?_
  have hSb4 : BelS wb4 wb4 := BelS.refl wb4
  refine wpAnyH_take (i := 61) (oi := _) (v := ?_) rfl (by kernel_rfl) (by kernel_rfl) (by kernel_rfl) (fun _ _ _ h => h) (Or.inl ⟨by rfl, ?_⟩) hSb4 ?_
  rotate_left
  · intro W hSW
    try go_simp
    all_goals with_reducible rfl
  simp only [Act.put, List.setIfInBounds_toArray, List.set_cons_zero, List.set_cons_succ, List.getElem_toArray, List.getElem_cons_zero, List.getElem_cons_succ]
  refine wpAnyH_take (i := 62) (oi := _) (v := ?_) rfl (by kernel_rfl) (by kernel_rfl) (by kernel_rfl) (fun _ _ _ h => h) (Or.inl ⟨by rfl, ?_⟩) hSb4 ?_
  rotate_left
  · intro W hSW
    try go_simp
    all_goals with_reducible rfl
  simp only [Act.put, List.setIfInBounds_toArray, List.set_cons_zero, List.set_cons_succ, List.getElem_toArray, List.getElem_cons_zero, List.getElem_cons_succ]
  refine wpAnyH_take (i := 63) (oi := _) (v := ?_) rfl (by kernel_rfl) (by kernel_rfl) (by kernel_rfl) (fun _ _ _ h => h) (Or.inl ⟨by rfl, ?_⟩) hSb4 ?_
  rotate_left
  · intro W hSW
    try go_simp
    all_goals with_reducible rfl
  simp only [Act.put, List.setIfInBounds_toArray, List.set_cons_zero, List.set_cons_succ, List.getElem_toArray, List.getElem_cons_zero, List.getElem_cons_succ]
  refine wpAnyH_done (by kernel_rfl) ?_ _
  have hbo := below_chain hq4 hq4.size hqb4
  go_wp2_with fail
  go_ret
  exact ⟨rfl, hbo⟩
end Go.Proofs.YtlkkjnacolmmpaaDoor
