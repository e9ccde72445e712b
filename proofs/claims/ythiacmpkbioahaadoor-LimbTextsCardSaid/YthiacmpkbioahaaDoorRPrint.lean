
/- The document's Print: the digits, one at a time. -/
import Derived.Test.YthiacmpkbioahaaDoorRDiv
import Derived.Lib.ItoaNum
namespace Go.Proofs.YthiacmpkbioahaaDoor
open Go Go.RowKit
set_option linter.unusedVariables false

set_option maxHeartbeats 1000000 in
theorem rzeroD_any (x : U4) (w : World) : Calls Tryd.prog 41 #[x.val] w fun e w' => e = .returned (.bool (eqB x U4.zero)) ∧ Below w.heap.size w w' := by
  have q : ∀ W, (binOp .eql 24 (.agg #[.int .u64 (x.a : Int), .int .u64 (x.b : Int), .int .u64 (x.c : Int), .int .u64 (x.d : Int)]) (.agg #[.int .u64 0, .int .u64 0, .int .u64 0, .int .u64 0])).run Tryd.prog W = .ok (.bool (eqB x U4.zero)) W := fun W => eql4 x U4.zero W
  have ha0 : Below w.heap.size w (w.alloc (.cells x.cells 24)) := (Below.refl _ _).alloc (Nat.le_refl _) _
  have hU := LBlk.new w x.cells
  obtain ⟨z0, z1, z2, z3⟩ := LBlk.all (s := x) hU
  clear hU
  generalize eqB x U4.zero = r at *
  unfold U4.val U4.cells at *
  go_enter Tryd.func41, Tryd.ntmps41
  go_wp2_with fail
  go_ret
  exact ⟨rfl, ha0⟩
def decB' (n : Nat) : ByteArray := ⟨(Lib.decDigits n).toArray⟩
theorem dec_small {n : Nat} (h : n < 10) : Lib.decDigits n = [UInt8.ofNat (48 + n)] := by rw [Lib.decDigits, dif_pos h]
theorem dec_big {n : Nat} (h : ¬ n < 10) : Lib.decDigits n = Lib.decDigits (n / 10) ++ [UInt8.ofNat (48 + n % 10)] := by rw [Lib.decDigits, dif_neg h]
theorem dec_pos (n : Nat) : 1 ≤ (Lib.decDigits n).length := by
  by_cases h : n < 10
  · rw [dec_small h]; exact Nat.le_refl _
  · rw [dec_big h]; simp
/-- what the loop finds: what is yet to be written, and what stands -/
def PRs (N n : Nat) (s : List UInt8) : Prop := (s = [] ∧ n = N) ∨ (s ≠ [] ∧ n = 0 ∧ s = Lib.decDigits N) ∨ (s ≠ [] ∧ n ≠ 0 ∧ Lib.decDigits n ++ s = Lib.decDigits N)
theorem PRs.more {N n : Nat} {s : List UInt8} (h : PRs N n s) (hc : s = [] ∨ n ≠ 0) : PRs N (n / 10) (UInt8.ofNat (48 + n % 10) :: s) ∧ s.length < (Lib.decDigits N).length := by
  have hd : Lib.decDigits n ++ s = Lib.decDigits N := by
    rcases h with ⟨h1, h2⟩ | ⟨h1, h2, -⟩ | ⟨-, -, h3⟩
    · rw [h1, h2, List.append_nil]
    · rcases hc with hc | hc
      · exact absurd hc h1
      · exact absurd h2 hc
    · exact h3
  have hl := congrArg List.length hd
  rw [List.length_append] at hl
  have hp := dec_pos n
  refine ⟨?_, by omega⟩
  by_cases h10 : n < 10
  · rw [dec_small h10] at hd
    refine .inr (.inl ⟨by simp, by omega, ?_⟩)
    rw [← hd, Nat.mod_eq_of_lt h10]
    rfl
  · rw [dec_big h10, List.append_assoc] at hd
    exact .inr (.inr ⟨by simp, by omega, hd⟩)
theorem PRs.end_ {N n : Nat} {s : List UInt8} (h : PRs N n s) (h1 : s ≠ []) (h2 : n = 0) : s = Lib.decDigits N := by
  rcases h with ⟨h, -⟩ | ⟨-, -, h⟩ | ⟨-, h, -⟩
  · exact absurd h h1
  · exact h
  · exact absurd h2 h
theorem nDig_le : ∀ (k u : Nat), u < 10 ^ (k + 1) → Lib.nDigits u ≤ k + 1
  | 0, u, h => by rw [Lib.nDigits_small (by simpa using h)]; exact Nat.le_refl _
  | k + 1, u, h => by
    by_cases h1 : u < 10
    · rw [Lib.nDigits_small h1]; omega
    · rw [Lib.nDigits_big h1]
      have := nDig_le k (u / 10) (by rw [Nat.pow_succ] at h; omega)
      omega
theorem dec_le {n : Nat} (h : n < top) : (Lib.decDigits n).length ≤ 78 := by
  rw [Lib.decDigits_length]
  exact nDig_le 77 n (Nat.lt_of_lt_of_le h (by decide))
theorem digit_cut (r : Nat) (h : r < 10) : (⟨#[48, 49, 50, 51, 52, 53, 54, 55, 56, 57]⟩ : ByteArray).extract r (r + 1) = ⟨#[UInt8.ofNat (48 + r)]⟩ := by
  have : r = 0 ∨ r = 1 ∨ r = 2 ∨ r = 3 ∨ r = 4 ∨ r = 5 ∨ r = 6 ∨ r = 7 ∨ r = 8 ∨ r = 9 := by omega
  rcases this with rfl | rfl | rfl | rfl | rfl | rfl | rfl | rfl | rfl | rfl <;> decide +kernel
set_option maxHeartbeats 4000000 in
theorem rprint_any (x : U4) (w : World) (hx : x.ok) : Calls Tryd.prog 27 #[x.val] w fun e w' => e = .returned (.string ⟨(Lib.decDigits x.nat).toArray⟩) ∧ Below w.heap.size w w' := by
  have HX := Lib.hid hx
  have HB : Hid (LBlk (w.alloc (.cells x.cells 24)) w.heap.size x.cells ∧ Below w.heap.size w (w.alloc (.cells x.cells 24))) := Lib.hid ⟨LBlk.new w x.cells, (Below.refl _ _).alloc (Nat.le_refl _) _⟩
  unfold U4.val
  go_enter Tryd.func27, Tryd.ntmps27
  go_wp2_with fail
  go_loopw [4] (fun sv wr => ∃ (S : ByteArray) (q : U4), sv = .string S ∧ q.ok ∧ PRs x.nat q.nat S.data.toList ∧ LBlk wr w.heap.size q.cells ∧ Below w.heap.size w wr)
    (fun sv _ => (Lib.decDigits x.nat).length - (match sv with | .string s => s.data.toList.length | _ => 0))
  case atStart => exact ⟨⟨#[]⟩, x, rfl, HX.out, .inl ⟨rfl, rfl⟩, HB.out.1, HB.out.2⟩
  case round =>
    clear HB
    obtain ⟨S, q, rfl, hq, hpr, hb0, hbl⟩ := hrel
    obtain ⟨c0, c1, c2, c3⟩ := hb0.all
    have HZ := Lib.hid (fun W => rzeroD_any q W)
    unfold U4.val U4.cells at HZ
    have hdv := fun W => rdiv_any q 10 W hq (by decide)
    rw [if_neg (by decide), if_neg (by decide)] at hdv
    have hq2 : (ofN (q.nat / 10)).nat = q.nat / 10 := nat_ofN (Nat.lt_of_le_of_lt (Nat.div_le_self _ _) (nat_lt hq))
    have hq3 := ofN_ok (q.nat / 10)
    have hr : q.nat % 10 < 10 := Nat.mod_lt _ (by decide)
    have hmore := fun h => PRs.more hpr h
    rw [← hq2] at hmore
    generalize ofN (q.nat / 10) = q2 at *
    unfold U4.val U4.cells at hdv
    have HD := Lib.hid hdv
    have hcut := digit_cut (q.nat % 10) hr
    obtain ⟨D, hD⟩ : ∃ D, D = UInt8.ofNat (48 + q.nat % 10) := ⟨_, rfl⟩
    rw [← hD] at hcut hmore
    have HMO := Lib.hid hmore
    have HEN := Lib.hid (fun h1 h2 => PRs.end_ hpr h1 h2)
    have HQ3 := Lib.hid hq3
    have HL := Lib.hid (And.intro hb0 hbl)
    have hz0 : eqB q U4.zero = true ↔ q.nat = 0 := by rw [eqB_iff, nat_zero]
    have HZ0 := Lib.hid hz0
    generalize q.nat % 10 = r at *
    have hr1 : (r : Int) < 10 := by omega
    clear hdv hq2 hq3 hb0 hbl hpr hq hmore hD hz0
    have HNX : Hid (∀ w1 : World, Below wr.heap.size wr w1 → LBlk (((((w1.alloc (.cells #[.int .u64 (q2.a : Int), .int .u64 (q2.b : Int), .int .u64 (q2.c : Int), .int .u64 (q2.d : Int)] 24)).setCell ⟨w.heap.size, 0, none⟩ (.int .u64 (q2.a : Int))).setCell ⟨w.heap.size, 1, none⟩ (.int .u64 (q2.b : Int))).setCell ⟨w.heap.size, 2, none⟩ (.int .u64 (q2.c : Int))).setCell ⟨w.heap.size, 3, none⟩ (.int .u64 (q2.d : Int))) w.heap.size q2.cells ∧
        Below w.heap.size w (((((w1.alloc (.cells #[.int .u64 (q2.a : Int), .int .u64 (q2.b : Int), .int .u64 (q2.c : Int), .int .u64 (q2.d : Int)] 24)).setCell ⟨w.heap.size, 0, none⟩ (.int .u64 (q2.a : Int))).setCell ⟨w.heap.size, 1, none⟩ (.int .u64 (q2.b : Int))).setCell ⟨w.heap.size, 2, none⟩ (.int .u64 (q2.c : Int))).setCell ⟨w.heap.size, 3, none⟩ (.int .u64 (q2.d : Int))) ∧
        LBlk (w1.alloc (.cells #[.int .u64 (q2.a : Int), .int .u64 (q2.b : Int), .int .u64 (q2.c : Int), .int .u64 (q2.d : Int)] 24)) w.heap.size q.cells) := Lib.hid fun w1 h1 => by
      have hbk := HL.out.1.below h1 HL.out.1.lt
      have hal := hbk.alloc (.cells #[.int .u64 (q2.a : Int), .int .u64 (q2.b : Int), .int .u64 (q2.c : Int), .int .u64 (q2.d : Int)] 24)
      have hg : w.heap.size ≤ w.heap.size := Nat.le_refl _
      have hbw := HL.out.2.trans (h1.mono HL.out.2.size)
      exact ⟨(((hal.set_ 0 _).set_ 1 _).set_ 2 _).set_ 3 _, ((((hbw.alloc hbw.size _).setCell hg _).setCell hg _).setCell hg _).setCell hg _, hal⟩
    have hcat : ∀ T : ByteArray, ((⟨#[D]⟩ : ByteArray) ++ T).data.toList = D :: T.data.toList := fun T => by simp [ByteArray.data_append]
    have HCAT := Lib.hid hcat
    clear hcat
    by_cases hs : S = ⟨#[]⟩
    · subst hs
      have hmo := HMO.out (.inl rfl)
      go_wp2_with fail
      refine (HD.out _).mono ?_
      rintro e w1 ⟨rfl, hb1⟩
      obtain ⟨g1, g2, g3⟩ := HNX.out w1 hb1
      obtain ⟨c0, c1, c2, c3⟩ := g3.all
      have f0 := g3.free 0
      have f1 := g3.free 1
      have f2 := g3.free 2
      have f3 := g3.free 3
      have HG := Lib.hid (And.intro g1 g2)
      have HM := Lib.hid hmo
      clear g1 g2 g3 hmo hb1 HNX HMO HEN HL HZ HD
      go_wp2_with fail
      refine ⟨⟨_, q2, rfl, HQ3.out, ?_, HG.out.1, HG.out.2⟩, ?_⟩
      · rw [HCAT.out]; exact HM.out.1
      · show _ - (((⟨#[D]⟩ : ByteArray) ++ ⟨#[]⟩).data.toList.length) < _
        rw [HCAT.out]
        have := HM.out.2
        simp at this ⊢
        omega
    · have hse : (S.toList == ([] : List UInt8)) = false := by
        rw [ByteArray.toList_eq]
        simp only [beq_eq_false_iff_ne]
        intro e
        exact hs (ByteArray.ext (by simpa using congrArg List.toArray e))
      have hsl : S.data.toList ≠ [] := fun e => hs (ByteArray.ext (by simpa using congrArg List.toArray e))
      have HSL := Lib.hid hsl
      clear hs hsl
      go_wp2_with fail
      refine (HZ.out _).mono ?_
      rintro e w1 ⟨rfl, hb1⟩
      by_cases hz : eqB q U4.zero = true
      · rw [hz]
        have hfin := HEN.out HSL.out (HZ0.out.1 hz)
        have hbl := HL.out.2.trans (hb1.mono HL.out.2.size)
        clear HNX HMO HEN HL HZ HD hb1 hz
        go_wp2_with fail
        go_ret
        have e : (⟨S.data.toList.toArray⟩ : ByteArray) = S := by cases S; simp
        refine ⟨?_, hbl⟩
        rw [← hfin, e]
        rfl
      · have hzf : eqB q U4.zero = false := by simpa using hz
        rw [hzf]
        have hmo := HMO.out (.inr fun e => hz (HZ0.out.2 e))
        obtain ⟨c0, c1, c2, c3⟩ := (HL.out.1.below hb1 HL.out.1.lt).all
        have HB1 := Lib.hid hb1
        have hsz : ¬ 9223372036854775807 < 1 + S.size := by
          have h1 := hmo.2
          have h2 := dec_le (nat_lt HX.out)
          have h3 : S.data.toList.length = S.size := by rw [Array.length_toList]; rfl
          omega
        clear hz hzf hb1
        go_wp2_with fail
        refine (HD.out _).mono ?_
        rintro e w2 ⟨rfl, hb2⟩
        obtain ⟨g1, g2, g3⟩ := HNX.out w2 (HB1.out.trans (hb2.mono HB1.out.size))
        obtain ⟨c0, c1, c2, c3⟩ := g3.all
        have f0 := g3.free 0
        have f1 := g3.free 1
        have f2 := g3.free 2
        have f3 := g3.free 3
        have HG := Lib.hid (And.intro g1 g2)
        have HM := Lib.hid hmo
        clear g1 g2 g3 hmo hb2 HNX HMO HEN HL HZ HD
        go_wp2_with fail
        refine ⟨⟨_, q2, rfl, HQ3.out, ?_, HG.out.1, HG.out.2⟩, ?_⟩
        · rw [HCAT.out]; exact HM.out.1
        · show _ - (((⟨#[D]⟩ : ByteArray) ++ S).data.toList.length) < _ - S.data.toList.length
          rw [HCAT.out]
          have := HM.out.2
          simp at this ⊢
          omega
end Go.Proofs.YthiacmpkbioahaaDoor
