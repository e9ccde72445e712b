/- The walk of the law: each thing is put in its one form. -/
import Derived.Test.YtmmmbllbnfaboaaWireFx
import Derived.Test.YtmmmbllbnfaboaaRefN
import Derived.Test.YtmmmbllbnfaboaaRefB
import Derived.Test.YtmmmbllbnfaboaaRefF
import Derived.Test.YtmmmbllbnfaboaaHeldBy
namespace Go.Proofs.Ytmmmbllbnfaboaa
open Go Go.RowKit

def formP (m : List UInt8) : List UInt8 := be (m.take 65535).length 4 ++ m.take 65535
theorem formP_length (m : List UInt8) : (formP m).length ≤ 65539 := by simp [formP, be_length]; omega
theorem same_yes (a b : Value) (l : List UInt8) (w : World) (ha : Rd w w.heap.size a l) (hb : Rd w w.heap.size b l) :
    Calls Try.prog 14 #[a, b] w fun e w' => e = .returned (.bool true) ∧ Below w.heap.size w w' := by
  have h := same_any a b l l w ha hb
  rw [sameB_refl] at h
  exact h
theorem Rd.first {w : World} {B n c : Nat} {A : Option Addr} {l : List UInt8} (h : Rd w B (.slice A n c) l) (k : Nat) (hk : k ≤ n) : Rd w B (.slice A k c) (l.take k) := by
  obtain ⟨A', c', hv, hlc, hcm, hp⟩ := h
  injection hv with h1 h2 h3
  subst h1; subst h2; subst h3
  have hl : (l.take k).length = k := by rw [List.length_take]; omega
  refine ⟨A, c, by rw [hl], by omega, hcm, fun h0 => ?_⟩
  obtain ⟨b, o, e, hb, hcell⟩ := hp (by omega)
  refine ⟨b, o, e, hb, fun j hj => ?_⟩
  rw [hcell j (by omega)]
  simp
theorem own_emptyB {B : Nat} (w : World) (hB : B ≤ w.heap.size) : Own (w.alloc (.cells #[] 5)) B (.slice (some ⟨w.heap.size, 0, none⟩) 0 0) [] := (own_empty w (Nat.le_refl _)).more hB
/-- the box of an operation, and what is known behind each step -/
def AB (g : Nat) (C : Array Value) (w w' : World) : Prop :=
  w'.heap[g]? = some (.cells C 25 (0, 0)) ∧ Below w.heap.size w w' ∧ w.heap.size ≤ w'.heap.size
section
variable {g : Nat} {C : Array Value} {w w' w'' : World}
theorem AB.new (w : World) (C : Array Value) : AB w.heap.size C w (w.alloc (.cells C 25)) := ⟨heap_alloc_new w _, (Below.refl _ _).alloc (Nat.le_refl _) _, by simp⟩
theorem AB.below (a : AB g C w w') (hb : Below w'.heap.size w' w'') : AB g C w w'' := ⟨(hb.block g (blk_lt a.1)).trans a.1, below_chain a.2.1 a.2.2 hb, Nat.le_trans a.2.2 hb.size⟩
theorem AB.again (a : AB g C w w') : AB g C w' w' := ⟨a.1, Below.refl _ _, Nat.le_refl _⟩
theorem AB.drew (a : AB g C w w') : AB g C w w'.drew := ⟨a.1, a.2.1.drew, a.2.2⟩
theorem AB.alloc (a : AB g C w w') (o : Obj) : AB g C w (w'.alloc o) := a.below ((Below.refl _ _).alloc (Nat.le_refl _) o)
theorem AB.lt (a : AB g C w w') : g < w'.heap.size := blk_lt a.1
theorem AB.s {kind most : Int} {n : Nat} {m : List UInt8} {A' : Option Addr} {c' : Nat} {yes : Bool} (a : AB g #[.int .i64 kind, .int .i64 most, .int .u64 (n : Int), .slice A' m.length c', .bool yes] w w') :
    w'.cell? ⟨g, 2, none⟩ = some (.int .u64 (n : Int)) ∧ w'.cell? ⟨g, 3, none⟩ = some (.slice A' m.length c') ∧ w'.cell? ⟨g, 4, none⟩ = some (.bool yes) := ⟨blk_cell a.1 2, blk_cell a.1 3, blk_cell a.1 4⟩
theorem AB.mk3 (h1 : w.heap[g]? = some (.cells C 25 (0, 0))) (hb : Below w.heap.size w w') (hs : w.heap.size ≤ w'.heap.size) : AB g C w w' := ⟨(hb.block g (blk_lt h1)).trans h1, hb, hs⟩
/-- an append to a row of the call's own, made behind the box -/
theorem AB.grown {v : Value} {B : Nat} {l : List UInt8} (a : AB g C w w') (h : Own w' B v l) (hB : g < B) (hB2 : w.heap.size ≤ B) (hg : w'.grownBy w'' v.ownBlock) : AB g C w w'' := by
  have hne : v.ownBlock ≠ some g := fun e => by have := (h.lt _ e).1; omega
  have hb := Own.below_grown a.2.1 h hB2 a.2.2 hg
  exact ⟨(hg.block g a.lt (Ne.symm hne)).trans a.1, hb, hb.size⟩
end


set_option maxHeartbeats 4000000 in
set_option maxRecDepth 100000 in
theorem puts_walk (A A' : Option Addr) (c c' : Nat) (l m : List UInt8) (kind most : Int) (n : Nat) (yes : Bool) (w : World) (hb : Rd w w.heap.size (.slice A l.length c) l) (hx : Rd w w.heap.size (.slice A' m.length c') m)
    (h1 : n < 18446744073709551616) (hl : l.length ≤ 1048576) (hm : m.length ≤ 1048576) :
    Calls Try.prog 3 #[.slice A l.length c, .agg #[.int .i64 kind, .int .i64 most, .int .u64 (n : Int), .slice A' m.length c', .bool yes]] w fun e w' => e = .returned (.bool true) ∧ Below w.heap.size w w' := by
  obtain ⟨i0, hi, hz, hsz, hby⟩ := info_parts Try.infoByte
  have hb0 := AB.new w #[.int .i64 kind, .int .i64 most, .int .u64 (n : Int), .slice A' m.length c', .bool yes]
  obtain ⟨a, ha⟩ : ∃ a, a = l.length := ⟨_, rfl⟩
  rw [← ha] at hb
  have HLw := Lib.hid hb
  have HXw := Lib.hid hx
  clear hb hx
  have HA := Lib.hid ha
  have HLl := hl
  rw [← ha] at hl ⊢
  clear ha
  obtain ⟨W, hW⟩ : ∃ W, W = l ++ [91, 92, 93, 94, 95, 96, 97, 98, 99] := ⟨_, rfl⟩
  have hWl : W.length = a + 9 := by rw [hW, HA.out]; simp
  have hWt : W.take a = l := by rw [hW, HA.out]; simp
  have HW := Lib.hid hW
  have HWT := Lib.hid hWt
  have hgB : w.heap.size < (w.alloc (.cells #[.int .i64 kind, .int .i64 most, .int .u64 (n : Int), .slice A' m.length c', .bool yes] 25)).heap.size := by simp
  obtain ⟨B0, hB0⟩ : ∃ B, B = (w.alloc (.cells #[.int .i64 kind, .int .i64 most, .int .u64 (n : Int), .slice A' m.length c', .bool yes] 25)).heap.size := ⟨_, rfl⟩
  have hemp := own_emptyB (B := B0) (w.alloc (.cells #[.int .i64 kind, .int .i64 most, .int .u64 (n : Int), .slice A' m.length c', .bool yes] 25)) (Nat.le_of_eq hB0)
  rw [← hB0] at hgB
  have hze : (w.alloc (.cells #[.int .i64 kind, .int .i64 most, .int .u64 (n : Int), .slice A' m.length c', .bool yes] 25)).heap.size = w.heap.size + 1 := by simp
  rw [hze] at hemp
  clear hze
  have hA0 := hb0.alloc (.cells #[] 5)
  have hbs0 : B0 ≤ ((w.alloc (.cells #[.int .i64 kind, .int .i64 most, .int .u64 (n : Int), .slice A' m.length c', .bool yes] 25)).alloc (.cells #[] 5)).heap.size := by rw [hB0]; simp
  have hgB2 : w.heap.size ≤ B0 := by omega
  clear hW hWt hB0
  go_enter Try.func3, Try.ntmps3
  go_wp2_with (at_builtin; first
    | (refine wpList_append_rd rfl (.tmp 14) (.tmp 15) _ rfl i0 Try.underlying22 hi hz hsz hby rfl hemp rfl (HLw.out.up (Nat.le_refl _) hA0.2.1) (by simp only [List.length_nil]; omega) hbs0 ?_; intro v1 w1 ho1 hg1 _
       have hA1 := hA0.grown hemp hgB hgB2 hg1
       have hbs1 : B0 ≤ w1.heap.size := Nat.le_trans hbs0 hg1.size
       rw [List.nil_append] at ho1
       clear hg1 hA0 hemp hbs0)
    | (refine wpList_append_rd rfl (.tmp 16) (.tmp 17) _ rfl i0 Try.underlying22 hi hz hsz hby rfl (ho1.alloc _) rfl (rd_lit w1 _ [91, 92, 93, 94, 95, 96, 97, 98, 99] 9 rfl (by simp [bcells, bval]) (by simp [maxLen])) (by simp; omega) (by simp; omega) ?_; intro v2 w2 ho2 hg2 _
       have hA2 := (hA1.alloc (.cells #[.int .u8 91, .int .u8 92, .int .u8 93, .int .u8 94, .int .u8 95, .int .u8 96, .int .u8 97, .int .u8 98, .int .u8 99] 5)).grown (ho1.alloc _) hgB hgB2 hg2
       have hbs2 : B0 ≤ w2.heap.size := Nat.le_trans (Nat.le_trans hbs1 (by simp)) hg2.size
       rw [← HW.out] at ho2
       have hemp2 := own_empty w2 (Nat.le_refl _)
       have hbe2 : Below w2.heap.size w2 (w2.alloc (.cells #[] 5)) := (Below.refl _ _).alloc (Nat.le_refl _) _
       have hr2 := ho2.rd
       obtain ⟨A2, c2, rfl⟩ := hr2.form
       have hc2 : (a : Int) ≤ (c2 : Int) := by
         obtain ⟨A', c', e, h1, _⟩ := id hr2
         injection e with _ _ e3
         omega
       rw [hWl] at hr2 ho2 ⊢
       clear hg2 ho1 hA1 ho2 hbs1)
    | (refine wpList_append_rd rfl (.tmp 19) (.tmp 20) _ rfl i0 Try.underlying22 hi hz hsz hby rfl hemp2 rfl (hr2.below hbe2) (by simp; omega) hbe2.size ?_; intro v3 w3 ho3 hg3 _
       have hb23 : Below w2.heap.size w2 w3 := Own.below_grown hbe2 hemp2 (Nat.le_refl _) hbe2.size hg3
       rw [List.nil_append] at ho3
       have hr3 := ho3.rd
       have hq3 := hr2.up (Nat.le_refl _) hb23
       have hA3 := hA2.below hb23
       obtain ⟨A3, c3, rfl⟩ := ho3.form' hWl
       clear hg3 ho3 hr2 hemp2 hbe2 hA2 hb23))
  have hP3 : Rd w3 w3.heap.size (.slice A2 a c2) l := by have := hq3.first a (by omega); rwa [HWT.out] at this
  obtain ⟨g, hg⟩ : ∃ g, g = w.heap.size := ⟨_, rfl⟩
  rw [← hg] at hA3
  simp only [← hg]
  have HG := Lib.hid hg
  clear hg hb0
  have hD := hA3.again.drew
  have HB3 := Lib.hid hA3.1
  have P3 := Lib.hid hP3
  have X3 := Lib.hid (HXw.out.up (Nat.le_refl _) hA3.2.1)
  have HW3 := Lib.hid hA3.2
  have Q3 := Lib.hid hq3
  have R3 := Lib.hid hr3
  have HPS : Hid (∀ W : World, AB g #[.int .i64 kind, .int .i64 most, .int .u64 (n : Int), .slice A' m.length c', .bool yes] w3 W → (W.cell? ⟨g, 2, none⟩ = some (.int .u64 (n : Int)) ∧ W.cell? ⟨g, 3, none⟩ = some (.slice A' m.length c') ∧ W.cell? ⟨g, 4, none⟩ = some (.bool yes)) ∧ (convert 22 9 (.slice A' m.length c')).run Try.prog W = .ok (.string ⟨m.toArray⟩) W) :=
    Lib.hid (fun W h => ⟨h.s, run_str Try.underlying22 Try.underlying5 Try.isString (X3.out.up (Nat.le_refl _) h.2.1)⟩)
  clear hA3 hP3 hq3 hr3 hgB hgB2 hbs2
  go_region_held_law (fun W => (W.cell? ⟨g, 2, none⟩ = some (.int .u64 (n : Int)) ∧ W.cell? ⟨g, 3, none⟩ = some (.slice A' m.length c') ∧ W.cell? ⟨g, 4, none⟩ = some (.bool yes)) ∧ (convert 22 9 (.slice A' m.length c')).run Try.prog W = .ok (.string ⟨m.toArray⟩) W)
    (first | exact HPS.out _ hA7 | exact HPS.out _ hA6 | exact HPS.out _ hA5 | exact HPS.out _ hA4 | exact HPS.out _ hD)
    (first
      | (go_at_call 9; (refine (N_any (.slice A2 a c2) l n _ (P3.out.up (Nat.le_refl _) hD.2.1) h1 (by omega)).mono ?_; rintro e w4 ⟨v4, rfl, ho4, hb4⟩; have hA4 := hD.below hb4))
      | (go_at_call 10; (refine (B_any (.slice A2 a c2) _ l m _ (P3.out.up (Nat.le_refl _) hA4.2.1) (X3.out.up (Nat.le_refl _) hA4.2.1) (by omega)).mono ?_; rintro e w5 ⟨v5, rfl, ho5, hb5⟩; have hA5 := hA4.below hb5))
      | (go_at_call 11; (refine (T_any (.slice A2 a c2) ⟨m.toArray⟩ l _ (P3.out.up (Nat.le_refl _) hA5.2.1) (by have := X3.out.len; simpa [ByteArray.size] using this) (by omega)).mono ?_; rintro e w6 ⟨v6, rfl, ho6, hb6⟩; have hA6 := hA5.below hb6))
      | (go_at_call 12; (refine (F_any (.slice A2 a c2) yes l _ (P3.out.up (Nat.le_refl _) hA6.2.1) (by omega)).mono ?_; rintro e w7 ⟨v7, rfl, ho7, hb7⟩; have hA7 := hA6.below hb7)))
  have x4 := ((ho4.below hb5).below hb6).below hb7
  have x5 := (ho5.below hb6).below hb7
  have x6 := ho6.below hb7
  have x7 := ho7
  rw [strBytes_mk, List.append_assoc] at x6
  rw [List.append_assoc] at x5
  replace x5 : Own w7 w4.heap.size v5 (l ++ formP m) := x5
  replace x6 : Own w7 w5.heap.size v6 (l ++ formP m) := x6
  have hlt4 := ho4.lt
  have hs34 := hD.2.2
  have hE := hA7.again
  have HX7 := Lib.hid hA7.2
  have L7 := Lib.hid ((HLw.out.up (Nat.le_refl _) HW3.out.1).up (Nat.le_refl _) hA7.2.1)
  have X7 := Lib.hid (X3.out.up (Nat.le_refl _) hA7.2.1)
  have Q7 := Lib.hid (Q3.out.up (Nat.le_refl _) hA7.2.1)
  have R7 := Lib.hid (R3.out.up (Nat.le_refl _) hA7.2.1)
  have Y4 := Lib.hid x4
  have Y5 := Lib.hid x5
  have Y6 := Lib.hid x6
  have Y7 := Lib.hid x7
  have HLT4 := Lib.hid hlt4
  have hs47 := Nat.le_trans (Nat.le_trans hb5.size hb6.size) hb7.size
  clear hA7 hA6 hA5 hA4 hD ho4 ho5 ho6 ho7 hb4 hb5 hb6 hb7 x4 x5 x6 x7 hlt4 HPS P3
  obtain ⟨A4, c4, rfl⟩ := Y4.out.form' (n := a + 8) (by rw [List.length_append, be_length, HA.out])
  go_wp2_with fail
  refine (fixed_any _).mono ?_
  rintro e w8 ⟨rfl, hb8⟩
  have hE8 := hE.below hb8
  obtain ⟨p8, q8, r8⟩ := hE8.s
  go_wp2_with fail
  refine (refN_any (.slice A a c) l n w8 (L7.out.up (Nat.le_refl _) hE8.2.1) h1 (by omega)).mono ?_
  rintro e w9 ⟨v9, rfl, ho9, hb9⟩
  have hE9 := hE8.below hb9
  skip
  obtain ⟨p9, q9, r9⟩ := hE9.s
  clear p8 q8 r8
  go_wp2_with fail
  refine (same_yes (.slice A4 (a + 8) c4) v9 (l ++ be n 8) w9 (Y4.out.rd.up (Nat.le_refl _) hE9.2.1) ho9.rd).mono ?_
  rintro e w10 ⟨rfl, hb10⟩
  have hE10 := hE9.below hb10
  skip
  obtain ⟨p10, q10, r10⟩ := hE10.s
  clear p9 q9 r9
  go_wp2_with fail
  refine (refB_any (.slice A a c) _ l m w10 (L7.out.up (Nat.le_refl _) hE10.2.1) (X7.out.up (Nat.le_refl _) hE10.2.1) (by omega)).mono ?_
  rintro e w11 ⟨v11, rfl, ho11, hb11⟩
  have hE11 := hE10.below hb11
  skip
  obtain ⟨p11, q11, r11⟩ := hE11.s
  clear p10 q10 r10
  rw [List.append_assoc] at ho11
  go_wp2_with fail
  refine (same_yes v5 v11 (l ++ formP m) w11 (Y5.out.rd.up (Nat.le_refl _) hE11.2.1) ho11.rd).mono ?_
  rintro e w12 ⟨rfl, hb12⟩
  have hE12 := hE11.below hb12
  skip
  obtain ⟨p12, q12, r12⟩ := hE12.s
  clear p11 q11 r11
  go_wp2_with fail
  refine (same_yes v6 v5 (l ++ formP m) w12 (Y6.out.rd.up (Nat.le_refl _) hE12.2.1) (Y5.out.rd.up (Nat.le_refl _) hE12.2.1)).mono ?_
  rintro e w13 ⟨rfl, hb13⟩
  have hE13 := hE12.below hb13
  skip
  obtain ⟨p13, q13, r13⟩ := hE13.s
  clear p12 q12 r12
  go_wp2_with fail
  refine (refF_any (.slice A a c) yes l w13 (L7.out.up (Nat.le_refl _) hE13.2.1) (by omega)).mono ?_
  rintro e w14 ⟨v14, rfl, ho14, hb14⟩
  have hE14 := hE13.below hb14
  skip
  obtain ⟨p14, q14, r14⟩ := hE14.s
  clear p13 q13 r13
  go_wp2_with fail
  refine (same_yes v7 v14 (l ++ [fb yes]) w14 (Y7.out.rd.up (Nat.le_refl _) hE14.2.1) ho14.rd).mono ?_
  rintro e w15 ⟨rfl, hb15⟩
  have hE15 := hE14.below hb15
  skip
  obtain ⟨p15, q15, r15⟩ := hE15.s
  clear p14 q14 r14
  go_wp2_with fail
  have hz3 := below_chain HX7.out.1 HX7.out.2 hE15.2.1
  have hx4 := Y4.out.below hE15.2.1
  have hx5 := Y5.out.below hE15.2.1
  have hltx := HLT4.out
  have hbox : Hid (w3.heap[g]? = some (.cells #[.int .i64 kind, .int .i64 most, .int .u64 (n : Int), .slice A' m.length c', .bool yes] 25 (0, 0))) := Lib.hid HB3.out
  have hyl := Lib.hid hs34
  clear p15 q15 r15 hE hE8 hE9 hE10 hE11 hE12 hE13 hE14 hE15 hb8 hb9 hb10 hb11 hb12 hb13 hb14 hb15 ho9 ho11 ho14 Q7 R7 L7 X7 Y4 Y5 Y6 Y7 HLT4 HX7 hs34
  replace hx4 : Own w15 w3.heap.size (.slice A4 (a + 8) c4) (l ++ be n 8) := hx4
  replace hltx : ∀ k, (Value.slice A4 (a + 8) c4).ownBlock = some k → w3.heap.size ≤ k ∧ k < w4.heap.size := hltx
  obtain ⟨BX, hBX⟩ : ∃ B, B = w3.heap.size := ⟨_, rfl⟩
  rw [← hBX] at hx4 hltx hz3
  obtain ⟨BY, hBY⟩ : ∃ B, B = w4.heap.size := ⟨_, rfl⟩
  rw [← hBY] at hx5 hltx
  have HBX := Lib.hid hBX
  clear hBX hBY
  have hl4 : (l ++ be n 8).length = a + 8 := by rw [List.length_append, be_length, HA.out]
  generalize l ++ be n 8 = N at *
  have HP0 : Hid (l ++ formP m = l ++ formP m) := Lib.hid rfl
  obtain ⟨P, hP⟩ : ∃ P, P = l ++ formP m := ⟨_, rfl⟩
  rw [← hP] at hx5
  replace HP0 := Lib.hid hP
  clear hP
  go_loopw [80] (fun i wr => ∃ (k : Nat) (l' : List UInt8), k ≤ a + 8 ∧ i = .int .i64 (k : Int) ∧ l'.length = a + 8 ∧ Own wr BX (.slice A4 (a + 8) c4) l' ∧ Own wr BY v5 P ∧ Below BX w3 wr)
    (fun i _ => a + 8 - (intOf i).toNat)
  case atStart => exact ⟨0, N, Nat.zero_le _, rfl, hl4, hx4, hx5, hz3⟩
  case round =>
    clear hx4 hx5 hz3 hl4
    obtain ⟨k, l', hk32, rfl, hl', hox, hoy, hbw⟩ := hrel
    have HL := Lib.hid hl'
    by_cases hlt : k < a + 8
    · obtain ⟨gA, rfl, _, hgs, hcell, hfz, hput⟩ := hox.at_ hlt (by omega)
      have hgA := hltx gA rfl
      have i1 : (0 : Int) ≤ (k : Int) := by omega
      have i2 : (k : Int) < (a : Int) + 8 := by omega
      have hx := bits_xor_byte (l'[k]'(by have := HL.out; omega)) 255
      rw [show ((255 : UInt8).toNat : Int) = 255 from rfl] at hx
      have hput' := hput ((l'[k]'(by have := HL.out; omega)) ^^^ 255)
      unfold bval at hput'
      have HP := Lib.hid hput'
      have hny : v5.ownBlock ≠ some gA := by intro e; have := hoy.lt _ e; omega
      clear hput hput'
      go_wp2
      go_roundw
      case rel => exact ⟨k + 1, _, by omega, by go_num, by rw [List.length_set]; exact HL.out, HP.out, hoy.grown (grown_set _ _ _ _) (.inr hny), hbw.setCell (by show BX ≤ gA; omega) _⟩
      case measure => simp [intOf]; omega
    · have hk2 : ¬ (k : Int) < (a : Int) + 8 := by omega
      have hny : v5.ownBlock = none ∨ v5.ownBlock ≠ (Value.slice A4 (a + 8) c4).ownBlock := by
        rcases h : v5.ownBlock with _ | g
        · exact .inl rfl
        · refine .inr ?_
          intro e
          have h1 := hoy.lt g h
          have h2 := hltx g e.symm
          omega
      have hszx : BX ≤ wr.heap.size := by have := hbw.size; have := HBX.out; omega
      go_wp2_with (
        at_builtin
        refine wpList_append_rd rfl (.tmp 90) (.tmp 91) _ rfl i0 Try.underlying22 hi hz hsz hby rfl (hox.alloc _) rfl (rd_lit wr _ [1, 1, 1] 3 rfl (by simp [bcells, bval]) (by simp [maxLen])) (by simp; omega) (by simp; omega) ?_
        intro vl wl hol hgl _
        have hyl := (hoy.alloc (.cells #[.int .u8 1, .int .u8 1, .int .u8 1] 5)).grown hgl hny
        have hbl : Below BX w3 wl := Own.below_grown (hbw.alloc hszx _) (hox.alloc _) (Nat.le_refl _) (by simp; omega) hgl
        obtain ⟨Al, cl, rfl⟩ := hol.form' (n := a + 8 + 3) (by simp; omega)
        clear hgl hox hoy hbw hol)
      rw [HBX.out] at hbl
      have hE := AB.mk3 hbox.out hbl hbl.size
      have hq := Q3.out.up (Nat.le_refl _) hbl
      have hr := R3.out.up (Nat.le_refl _) hbl
      refine (same_yes _ _ W wl hq hr).mono ?_
      rintro e w16 ⟨rfl, hb16⟩
      have hE16 := hE.below hb16
      obtain ⟨p16, q16, r16⟩ := hE16.s
      clear hq hr hE
      go_wp2_with fail
      refine (refB_any (.slice A a c) _ l m w16 ((HLw.out.up (Nat.le_refl _) HW3.out.1).up (Nat.le_refl _) hE16.2.1) (X3.out.up (Nat.le_refl _) hE16.2.1) (by omega)).mono ?_
      rintro e w17 ⟨v17, rfl, ho17, hb17⟩
      rw [List.append_assoc] at ho17
      have hE17 := hE16.below hb17
      have hy17 := ((hyl.below hb16).below hb17).rd
      clear p16 q16 r16
      go_wp2_with fail
      refine (same_yes v5 v17 P w17 hy17 (by rw [HP0.out]; exact ho17.rd)).mono ?_
      rintro e w18 ⟨rfl, hb18⟩
      have hE18 := hE17.below hb18
      have hfin := below_chain HW3.out.1 HW3.out.2 hE18.2.1
      clear hE16 hE17 hb16 hb17 hy17 ho17 hyl hbl
      go_wp2_with fail
      go_ret
      exact ⟨by rfl, hfin⟩
end Go.Proofs.Ytmmmbllbnfaboaa
