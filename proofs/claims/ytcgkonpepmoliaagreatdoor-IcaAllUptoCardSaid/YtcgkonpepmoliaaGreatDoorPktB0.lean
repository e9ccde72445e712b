
/- The walks of a packet being parsed and put in bytes. The walks of a packet in bytes, of its hash, and of what isn't sent; the law of a packet's keys. -/
import Derived.Test.YtcgkonpepmoliaaGreatDoorEncB1
import Derived.Test.YtcgkonpepmoliaaGreatDoorWireW0
import Derived.Test.YtcgkonpepmoliaaGreatDoorWireDoc0
import Derived.Test.YtcgkonpepmoliaaGreatDoorPktH
import Derived.Test.YtcgkonpepmoliaaGreatDoorShaM0
namespace Go.Proofs.YtcgkonpepmoliaaGreatDoor
set_option maxRecDepth 100000
open Go Go.RowKit
set_option linter.unusedVariables false

structure PktV where
  src : ByteArray
  dst : ByteArray
  seq : Nat
  data : List UInt8
  ht : Nat
  tm : Nat
def PktV.none : PktV := ⟨⟨#[]⟩, ⟨#[]⟩, 0, [], 0, 0⟩
def PktV.val (p : PktV) (vd : Value) : Value := .agg #[.string p.src, .string p.dst, .int .u64 (p.seq : Int), vd, .int .u64 (p.ht : Int), .int .u64 (p.tm : Int)]
def readP (l : List UInt8) : Option PktV :=
  match rB l 0 with
  | (sa, l1, f1) => match rB l1 f1 with
    | (sb, l2, f2) => match rN l2 f2 with
      | (sq, l3, f3) => match rB l3 f3 with
        | (dt, l4, f4) => match rN l4 f4 with
          | (ht, l5, f5) => match rN l5 f5 with
            | (tm, l6, f6) => if rEnd l6 f6 = 0 then some ⟨⟨sa.toArray⟩, ⟨sb.toArray⟩, sq, dt, ht, tm⟩ else Option.none
theorem rN_ltP (l : List UInt8) (f : Int) : (rN l f).1 < 18446744073709551616 := by
  unfold rN
  split
  · show 0 < _; omega
  · split
    · show 0 < _; omega
    · have := beVal_lt8 (l.take 8) 8 (by simp; omega)
      show beVal (l.take 8) < _
      omega
end Go.Proofs.YtcgkonpepmoliaaGreatDoor
namespace Go.Proofs.YtcgkonpepmoliaaGreatDoor
set_option maxRecDepth 100000
open Go Go.RowKit
set_option linter.unusedVariables false

def encS (s : ByteArray) : List UInt8 := encB (strBytes s)
theorem encB_lenP (m : List UInt8) : (encB m).length ≤ 65539 := by
  unfold encB
  simp [be_length]
  omega
theorem TS0 (v : Value) (s : ByteArray) (l : List UInt8) (Z : World) (hr : Rd Z Z.heap.size v l) (hs : s.size ≤ maxLen) (hl : l.length ≤ 140737488355328 - 65539) :
    Calls Tryz.prog 47 #[v, .string s] Z fun e w' => ∃ v', e = .returned v' ∧ Own w' Z.heap.size v' (l ++ encS s) ∧ Below Z.heap.size Z w' :=
  (T_any v s l Z hr hs hl).mono fun e w' ⟨v', h1, h2, h3⟩ => ⟨v', h1, by rw [List.append_assoc] at h2; exact h2, h3⟩
theorem BS0 (v x : Value) (l m : List UInt8) (Z : World) (hr : Rd Z Z.heap.size v l) (hx : Rd Z Z.heap.size x m) (hl : l.length ≤ 140737488355328 - 65539) :
    Calls Tryz.prog 46 #[v, x] Z fun e w' => ∃ v', e = .returned v' ∧ Own w' Z.heap.size v' (l ++ encB m) ∧ Below Z.heap.size Z w' :=
  (B_any v x l m Z hr hx hl).mono fun e w' ⟨v', h1, h2, h3⟩ => ⟨v', h1, by rw [List.append_assoc] at h2; exact h2, h3⟩
/-- a packet's bytes -/
def pktB (p : PktV) : List UInt8 := ((((encS p.src ++ encS p.dst) ++ be p.seq 8) ++ encB p.data) ++ be p.ht 8) ++ be p.tm 8
set_option maxHeartbeats 8000000 in
theorem pbytes_any (p : PktV) (vd : Value) (w : World) (hr : Rd w w.heap.size vd p.data) (h1 : p.src.size ≤ maxLen) (h2 : p.dst.size ≤ maxLen) (h3 : p.seq < 18446744073709551616) (h4 : p.ht < 18446744073709551616) (h5 : p.tm < 18446744073709551616) :
    Calls Tryz.prog 118 #[p.val vd] w fun e w' => ∃ v', e = .returned v' ∧ Own w' w.heap.size v' (pktB p) ∧ Below w.heap.size w w' := by
  obtain ⟨src, dst, seq, data, ht, tm⟩ := p
  dsimp only at hr h1 h2 h3 h4 h5
  unfold PktV.val pktB
  dsimp only
  have HRD := Lib.hid hr
  obtain ⟨Ad, cd, rfl⟩ := hr.form
  obtain ⟨nd, hnd⟩ : ∃ n, n = data.length := ⟨_, rfl⟩
  rw [← hnd] at HRD ⊢
  clear hnd hr
  have hbox := heap_alloc_new w (.cells #[.string src, .string dst, .int .u64 (seq : Int), .slice Ad nd cd, .int .u64 (ht : Int), .int .u64 (tm : Int)] 45)
  have ha0 : Below w.heap.size w (w.alloc (.cells #[.string src, .string dst, .int .u64 (seq : Int), .slice Ad nd cd, .int .u64 (ht : Int), .int .u64 (tm : Int)] 45)) := (Below.refl _ _).alloc (Nat.le_refl _) _
  generalize hW0 : w.alloc (.cells #[.string src, .string dst, .int .u64 (seq : Int), .slice Ad nd cd, .int .u64 (ht : Int), .int .u64 (tm : Int)] 45) = W0 at *
  have hgl := blk_lt hbox
  have HRZ : Hid (∀ Z, Below W0.heap.size W0 Z → Rd Z Z.heap.size (.slice Ad nd cd) data) := Lib.hid fun Z hz => HRD.out.up (Nat.le_refl _) (below_chain ha0 ha0.size hz)
  generalize hgg : w.heap.size = g0 at *
  have HC : Hid (∀ Z, Below W0.heap.size W0 Z → Z.cell? ⟨g0, 0, none⟩ = some (.string src) ∧ Z.cell? ⟨g0, 1, none⟩ = some (.string dst) ∧ Z.cell? ⟨g0, 2, none⟩ = some (.int .u64 (seq : Int)) ∧ Z.cell? ⟨g0, 3, none⟩ = some (.slice Ad nd cd) ∧ Z.cell? ⟨g0, 4, none⟩ = some (.int .u64 (ht : Int)) ∧ Z.cell? ⟨g0, 5, none⟩ = some (.int .u64 (tm : Int))) := Lib.hid fun Z hz => ⟨blk_cell ((hz.block _ hgl).trans hbox) 0, blk_cell ((hz.block _ hgl).trans hbox) 1, blk_cell ((hz.block _ hgl).trans hbox) 2, blk_cell ((hz.block _ hgl).trans hbox) 3, blk_cell ((hz.block _ hgl).trans hbox) 4, blk_cell ((hz.block _ hgl).trans hbox) 5⟩
  have hkD : Below W0.heap.size W0 W0.drew := Below.drew (Below.refl _ _)
  have l1 := encB_lenP (strBytes src)
  have l2 := encB_lenP (strBytes dst)
  have l3 := encB_lenP data
  replace l1 : (encS src).length ≤ 65539 := l1
  replace l2 : (encS dst).length ≤ 65539 := l2
  have HT1 := Lib.hid (TS0 (.slice none 0 0) src [] W0.drew (Rd.nil _ _) h1 (by simp))
  rw [List.nil_append] at HT1
  have HT2 : Hid (∀ (v : Value) (Z : World) (B : Nat), Own Z B v (encS src) → Calls Tryz.prog 47 #[v, .string dst] Z fun e w' => ∃ v', e = .returned v' ∧ Own w' Z.heap.size v' (encS src ++ encS dst) ∧ Below Z.heap.size Z w') :=
    Lib.hid fun v Z B ho => TS0 v dst _ Z ho.rd h2 (by omega)
  have HN1 : Hid (∀ (v : Value) (Z : World) (B : Nat), Own Z B v (encS src ++ encS dst) → Calls Tryz.prog 45 #[v, .int .u64 (seq : Int)] Z fun e w' => ∃ v', e = .returned v' ∧ Own w' Z.heap.size v' ((encS src ++ encS dst) ++ be seq 8) ∧ Below Z.heap.size Z w') :=
    Lib.hid fun v Z B ho => N_any v _ seq Z ho.rd h3 (by simp; omega)
  have HB1 : Hid (∀ (v : Value) (Z : World) (B : Nat), Below W0.heap.size W0 Z → Own Z B v ((encS src ++ encS dst) ++ be seq 8) → Calls Tryz.prog 46 #[v, .slice Ad nd cd] Z fun e w' => ∃ v', e = .returned v' ∧ Own w' Z.heap.size v' (((encS src ++ encS dst) ++ be seq 8) ++ encB data) ∧ Below Z.heap.size Z w') :=
    Lib.hid fun v Z B hz ho => BS0 v _ _ data Z ho.rd (HRZ.out Z hz) (by simp [be_length]; omega)
  have HN2 : Hid (∀ (v : Value) (Z : World) (B : Nat), Own Z B v (((encS src ++ encS dst) ++ be seq 8) ++ encB data) → Calls Tryz.prog 45 #[v, .int .u64 (ht : Int)] Z fun e w' => ∃ v', e = .returned v' ∧ Own w' Z.heap.size v' ((((encS src ++ encS dst) ++ be seq 8) ++ encB data) ++ be ht 8) ∧ Below Z.heap.size Z w') :=
    Lib.hid fun v Z B ho => N_any v _ ht Z ho.rd h4 (by simp [be_length]; omega)
  have HN3 : Hid (∀ (v : Value) (Z : World) (B : Nat), Own Z B v ((((encS src ++ encS dst) ++ be seq 8) ++ encB data) ++ be ht 8) → Calls Tryz.prog 45 #[v, .int .u64 (tm : Int)] Z fun e w' => ∃ v', e = .returned v' ∧ Own w' Z.heap.size v' (((((encS src ++ encS dst) ++ be seq 8) ++ encB data) ++ be ht 8) ++ be tm 8) ∧ Below Z.heap.size Z w') :=
    Lib.hid fun v Z B ho => N_any v _ tm Z ho.rd h5 (by simp [be_length]; omega)
  generalize ((((encS src ++ encS dst) ++ be seq 8) ++ encB data) ++ be ht 8) ++ be tm 8 = L6 at *
  generalize (((encS src ++ encS dst) ++ be seq 8) ++ encB data) ++ be ht 8 = L5 at *
  generalize ((encS src ++ encS dst) ++ be seq 8) ++ encB data = L4 at *
  generalize (encS src ++ encS dst) ++ be seq 8 = L3 at *
  generalize encS src ++ encS dst = L2 at *
  generalize encS src = L1 at *
  clear hbox l1 l2 l3 h1 h2 h3 h4 h5 HRD HRZ
  go_enter Tryz.func118, Tryz.ntmps118
  go_wp2_with fail
  try rw [hW0]
  clear hW0
  try rw [hgg]
  go_region_held_law (fun Z => Z.cell? ⟨g0, 0, none⟩ = some (.string src) ∧ Z.cell? ⟨g0, 1, none⟩ = some (.string dst) ∧ Z.cell? ⟨g0, 2, none⟩ = some (.int .u64 (seq : Int)) ∧ Z.cell? ⟨g0, 3, none⟩ = some (.slice Ad nd cd) ∧ Z.cell? ⟨g0, 4, none⟩ = some (.int .u64 (ht : Int)) ∧ Z.cell? ⟨g0, 5, none⟩ = some (.int .u64 (tm : Int)))
    (with_reducible first | exact HC.out _ hk3 | exact HC.out _ hk2 | exact HC.out _ hk1 | exact HC.out _ hkD)
    ((first
      | (go_at_call 47; first
          | (refine (HT2.out _ _ _ ho1).mono ?_; rintro e w2 ⟨v2, rfl, ho2, hb2⟩; have hk2 := below_chain hk1 hk1.size hb2)
          | (refine HT1.out.mono ?_; rintro e w1 ⟨v1, rfl, ho1, hb1⟩; have hk1 := below_chain hkD hkD.size hb1))
      | (go_at_call 45; refine (HN1.out _ _ _ ho2).mono ?_; rintro e w3 ⟨v3, rfl, ho3, hb3⟩; have hk3 := below_chain hk2 hk2.size hb3)))
  all_goals
    have hkE := Below.drew hk3
    have hoE : Own w3.drew _ v3 L3 := ho3
    obtain ⟨A3, c3, rfl⟩ := ho3.form
    generalize L3.length = n3 at *
    clear HT1 HT2 HN1 ho1 ho2 ho3
    go_wp2_with fail
    go_region_held_law (fun Z => Z.cell? ⟨g0, 0, none⟩ = some (.string src) ∧ Z.cell? ⟨g0, 1, none⟩ = some (.string dst) ∧ Z.cell? ⟨g0, 2, none⟩ = some (.int .u64 (seq : Int)) ∧ Z.cell? ⟨g0, 3, none⟩ = some (.slice Ad nd cd) ∧ Z.cell? ⟨g0, 4, none⟩ = some (.int .u64 (ht : Int)) ∧ Z.cell? ⟨g0, 5, none⟩ = some (.int .u64 (tm : Int)))
      (with_reducible first | exact HC.out _ hk6 | exact HC.out _ hk5 | exact HC.out _ hk4 | exact HC.out _ hkE)
      ((first
        | (go_at_call 46; refine (HB1.out _ _ _ hkE hoE).mono ?_; rintro e w4 ⟨v4, rfl, ho4, hb4⟩; have hk4 := below_chain hkE hkE.size hb4)
        | (go_at_call 45; first
            | (refine (HN3.out _ _ _ ho5).mono ?_; rintro e w6 ⟨v6, rfl, ho6, hb6⟩; have hk6 := below_chain hk5 hk5.size hb6)
            | (refine (HN2.out _ _ _ ho4).mono ?_; rintro e w5 ⟨v5, rfl, ho5, hb5⟩; have hk5 := below_chain hk4 hk4.size hb5))))
    all_goals
      obtain ⟨A6, c6, rfl⟩ := ho6.form
      go_wp2_with fail
      subst hgg
      have hs5 := Nat.le_trans ha0.size hk5.size
      have hfin := below_chain ha0 ha0.size hk6
      go_ret
      exact ⟨_, rfl, ho6.more hs5, hfin⟩
def chanP : ByteArray := ⟨#[105, 98, 99, 47, 99, 104, 97, 110, 47]⟩
theorem ckey_any (a : ByteArray) (w : World) (ha : a.size ≤ 100000000) : Calls Tryz.prog 31 #[.string a] w fun e w' => e = .returned (.string (chanP ++ a)) ∧ w = w' := by
  have s1 : chanP.size = 9 := rfl
  have h1 := fun W => txt_add chanP a (by rw [s1]; omega) W
  unfold chanP at *
  go_enter Tryz.func31, Tryz.ntmps31
  go_wp2
  go_ret
  exact ⟨rfl, rfl⟩
set_option maxHeartbeats 2000000 in
theorem cget_none (y : Lyr) (w : World) (h : PileS w [y]) (a : ByteArray) (ha : a.size ≤ 100000000) (hn : visV [y] (chanP ++ a) = none) :
    Calls Tryz.prog 42 #[.pointer (some ⟨y.b, 0, none⟩), .string a] w fun e w' => e = .returned (.tuple #[.agg #[.int .u64 0, .bool false, .string ⟨#[]⟩, .string ⟨#[]⟩, .string ⟨#[]⟩, .string ⟨#[]⟩, .string ⟨#[]⟩], .bool false]) ∧ Below w.heap.size w w' := by
  have HG := Lib.hid (fun (Z : World) (hz : Below w.heap.size w Z) => get_any (h.up hz) (chanP ++ a) (by rw [ByteArray.size_append]; have : chanP.size = 9 := rfl; unfold maxLen; omega))
  rw [hn] at HG
  have HK := Lib.hid (fun W : World => ckey_any a W ha)
  have hk0 := heap_alloc_new w (.cells #[.int .u64 0, .bool false, .string ⟨#[]⟩, .string ⟨#[]⟩, .string ⟨#[]⟩, .string ⟨#[]⟩, .string ⟨#[]⟩] 32)
  have ha0 : Below w.heap.size w (w.alloc (.cells #[.int .u64 0, .bool false, .string ⟨#[]⟩, .string ⟨#[]⟩, .string ⟨#[]⟩, .string ⟨#[]⟩, .string ⟨#[]⟩] 32)) := (Below.refl _ _).alloc (Nat.le_refl _) _
  have hTV : topV [y] = .pointer (some ⟨y.b, 0, none⟩) := rfl
  rw [hTV] at HG
  generalize chanP ++ a = key at *
  clear h hn hTV
  go_enter Tryz.func42, Tryz.ntmps42
  go_wp2_with fail
  generalize w.alloc (.cells #[.int .u64 0, .bool false, .string ⟨#[]⟩, .string ⟨#[]⟩, .string ⟨#[]⟩, .string ⟨#[]⟩, .string ⟨#[]⟩] 32) = w0 at *
  refine (HK.out _).mono ?_
  rintro e w9 ⟨rfl, rfl⟩
  go_wp2_with fail
  refine (HG.out _ ha0).mono ?_
  rintro e w1 ⟨v, rfl, hov, hb1⟩
  have hq1 := below_chain ha0 ha0.size hb1
  have hk1 := (hb1.block _ (blk_lt hk0)).trans hk0
  obtain ⟨A, c, hv⟩ : ∃ A c, v = .slice A 0 c := hov.form
  subst hv
  clear HG HK hk0 hb1 hov
  have r0 := blk_cell hk1 0
  have q0 := blk_free hk1 0
  have r1 := blk_cell hk1 1
  have q1 := blk_free hk1 1
  have r2 := blk_cell hk1 2
  have q2 := blk_free hk1 2
  have r3 := blk_cell hk1 3
  have q3 := blk_free hk1 3
  have r4 := blk_cell hk1 4
  have q4 := blk_free hk1 4
  have r5 := blk_cell hk1 5
  have q5 := blk_free hk1 5
  have r6 := blk_cell hk1 6
  have q6 := blk_free hk1 6
  have hk7 := set7P hk1 (.int .u64 0) (.bool false) (.string ⟨#[]⟩) (.string ⟨#[]⟩) (.string ⟨#[]⟩) (.string ⟨#[]⟩) (.string ⟨#[]⟩)
  have hb7 := below_set7P hq1 (Nat.le_refl _) (.int .u64 0) (.bool false) (.string ⟨#[]⟩) (.string ⟨#[]⟩) (.string ⟨#[]⟩) (.string ⟨#[]⟩) (.string ⟨#[]⟩)
  have HD := Lib.hid (And.intro (blk_cell hk7 0) (And.intro (blk_cell hk7 1) (And.intro (blk_cell hk7 2) (And.intro (blk_cell hk7 3) (And.intro (blk_cell hk7 4) (And.intro (blk_cell hk7 5) (blk_cell hk7 6)))))))
  clear hk7
  go_wp2_with fail
  obtain ⟨d0, d1, d2, d3, d4, d5, d6⟩ := HD.out
  refine bodyPost_ret (v := .tuple #[.agg #[.int .u64 0, .bool false, .string ⟨#[]⟩, .string ⟨#[]⟩, .string ⟨#[]⟩, .string ⟨#[]⟩, .string ⟨#[]⟩], .bool false]) ?_ rfl ⟨rfl, hb7⟩
  simp at d0 d1 d2 d3 d4 d5 d6
  simp [results, Tryz.results42, go_sem, d0, d1, d2, d3, d4, d5, d6]
end Go.Proofs.YtcgkonpepmoliaaGreatDoor
