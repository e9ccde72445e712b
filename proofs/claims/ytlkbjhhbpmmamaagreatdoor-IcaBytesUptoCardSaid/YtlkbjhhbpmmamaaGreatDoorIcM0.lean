
/- Orders in bytes: the program's. Rows of orders, of the call's own: read, appended to. Orders out of bytes: what is read, place by place; what was read whole is written back. -/
import Derived.Test.YtlkbjhhbpmmamaaGreatDoorWireW0
import Derived.Test.YtlkbjhhbpmmamaaGreatDoorEncB1
import Derived.Test.YtlkbjhhbpmmamaaGreatDoorLimbX0
import Derived.Deep.RegionLaw
import Derived.Deep.RegionHeldLaw
namespace Go.Proofs.YtlkbjhhbpmmamaaGreatDoor
set_option maxRecDepth 100000
open Go Go.RowKit
set_option linter.unusedVariables false

structure OrdV where
  t : ByteArray
  d : ByteArray
  x : U4
def OrdV.cells (o : OrdV) : Array Value := #[.string o.t, .string o.d, .int .u64 (o.x.a : Int), .int .u64 (o.x.b : Int), .int .u64 (o.x.c : Int), .int .u64 (o.x.d : Int)]
def OrdsAt (W : World) (v : Value) (l : List OrdV) : Prop := ∃ A c, v = .slice A l.length c ∧ (0 < l.length → ∃ b o, A = some ⟨b, o, none⟩ ∧ b < W.heap.size ∧
  ∀ (j : Nat) (h : j < l.length) (i : Nat) (u : Value), i < 6 → l[j].cells[i]? = some u → W.cell? ⟨b, o + j * 6 + i, none⟩ = some u)
def orB (o : OrdV) : List UInt8 := encB (strBytes o.t) ++ encB (strBytes o.d) ++ encB (be o.x.nat 32)
def ordsB (l : List OrdV) (j : Nat) : List UInt8 := be l.length 8 ++ (l.take j).flatMap orB
theorem encB_lenO (m : List UInt8) : (encB m).length ≤ 65539 := by
  unfold encB
  simp [be_length]
  omega
theorem orB_len (o : OrdV) : (orB o).length ≤ 196617 := by
  have h1 := encB_lenO (strBytes o.t)
  have h2 := encB_lenO (strBytes o.d)
  have h3 := encB_lenO (be o.x.nat 32)
  unfold orB
  simp only [List.length_append]
  omega
theorem ordsB_next (l : List OrdV) (j : Nat) (h : j < l.length) : ordsB l (j + 1) = ordsB l j ++ orB l[j] := by
  unfold ordsB
  rw [List.take_succ_eq_append_getElem h, List.flatMap_append]
  simp
theorem flat_lenO (l : List OrdV) : (l.flatMap orB).length ≤ l.length * 196617 := by
  induction l with
  | nil => simp
  | cons o l ih =>
    have := orB_len o
    simp only [List.flatMap_cons, List.length_append, List.length_cons]
    omega
theorem ordsB_len (l : List OrdV) (j : Nat) : (ordsB l j).length ≤ l.length * 196617 + 8 := by
  have h := flat_lenO (l.take j)
  have h2 : (l.take j).length ≤ l.length := by simp; omega
  unfold ordsB
  simp only [List.length_append, be_length]
  omega
set_option maxHeartbeats 8000000 in
theorem icb_any (w : World) (v : Value) (l : List OrdV) (hv : OrdsAt w v l) (hx : ∀ o ∈ l, o.x.ok ∧ o.t.size ≤ maxLen ∧ o.d.size ≤ maxLen) (hn : l.length ≤ 1048576) :
    Calls Tryz.prog 12 #[v] w fun e w' => ∃ v', e = .returned v' ∧ Own w' w.heap.size v' (ordsB l l.length) ∧ Below w.heap.size w w' := by
  obtain ⟨i0, hi, hz, hsz, hby⟩ := info_parts Tryz.infoByte
  obtain ⟨A, c, rfl, hc⟩ := hv
  have HN := Lib.hid (N_any (.slice none 0 0) [] l.length w (Rd.nil _ _) (by omega) (by simp))
  have HC := Lib.hid hc
  have HX := Lib.hid hx
  have HB := Lib.hid (fun j => ordsB_len l j)
  have HS := Lib.hid (fun j h => ordsB_next l j h)
  have H0 := Lib.hid (show ordsB l 0 = [] ++ be l.length 8 by unfold ordsB; simp)
  obtain ⟨n, hnl⟩ : ∃ n, n = l.length := ⟨_, rfl⟩
  have HL := Lib.hid hnl
  rw [← hnl] at HN ⊢
  clear hx hc
  have hn' : n ≤ 1048576 := by omega
  clear hnl hn
  go_enter Tryz.func12, Tryz.ntmps12
  go_wp2_with fail
  try rw [show IntKind.u64.wrap (n : Int) = (n : Int) by go_num]
  refine HN.out.mono ?_
  rintro e w1 ⟨v1, rfl, ho1, hb1⟩
  rw [HL.out, ← H0.out] at ho1
  clear HN
  go_wp2_with fail
  go_loopw [3, 12] (fun b i W => ∃ j : Nat, j ≤ n ∧ i = .int .i64 (j : Int) ∧ Own W w.heap.size b (ordsB l j) ∧ Below w.heap.size w W)
    (fun _ i _ => n - (intOf i).toNat)
  case atStart => exact ⟨0, by omega, rfl, ho1, hb1⟩
  case round =>
    rename World => W
    obtain ⟨j, hj, rfl, ho, hb⟩ := hrel
    clear ho1 hb1
    by_cases hlt : j < n
    · have i1 : (0 : Int) ≤ (j : Int) := by omega
      have i2 : (j : Int) < (n : Int) := by omega
      have hjl : j < l.length := by have := HL.out; omega
      obtain ⟨g, o, rfl, hgl, hcell⟩ := HC.out (by omega)
      have hck := hcell j hjl
      have hok := HX.out _ (List.getElem_mem hjl)
      have hle := HB.out j
      have hnx := HS.out j hjl
      have hll := HL.out
      have HNX := Lib.hid hnx
      clear hcell hnx
      generalize l[j] = op at *
      obtain ⟨ot, od, ox⟩ := op
      dsimp only at hok
      obtain ⟨f1, f2, f3⟩ := hok
      have hcc : ∀ i u, i < 6 → (OrdV.mk ot od ox).cells[i]? = some u → W.cell? ⟨g, o + j * 6 + i, none⟩ = some u := fun i u hi e =>
        (hb.cell (p := ⟨g, o + j * 6 + i, none⟩) hgl).trans (hck i u hi e)
      have e0 : W.cell? ⟨g, o + j * 6, none⟩ = some (.string ot) := hcc 0 _ (by omega) rfl
      have e1 : W.cell? ⟨g, o + j * 6 + 1, none⟩ = some (.string od) := hcc 1 _ (by omega) rfl
      have e2 : W.cell? ⟨g, o + j * 6 + 2, none⟩ = some (.int .u64 (ox.a : Int)) := hcc 2 _ (by omega) rfl
      have e3 : W.cell? ⟨g, o + j * 6 + 3, none⟩ = some (.int .u64 (ox.b : Int)) := hcc 3 _ (by omega) rfl
      have e4 : W.cell? ⟨g, o + j * 6 + 4, none⟩ = some (.int .u64 (ox.c : Int)) := hcc 4 _ (by omega) rfl
      have e5 : W.cell? ⟨g, o + j * 6 + 5, none⟩ = some (.int .u64 (ox.d : Int)) := hcc 5 _ (by omega) rfl
      have hO := Lib.hid ho
      obtain ⟨Ab, cb, rfl⟩ := ho.form
      have hk := heap_alloc_new W (.cells #[.string ot, .string od, .int .u64 (ox.a : Int), .int .u64 (ox.b : Int), .int .u64 (ox.c : Int), .int .u64 (ox.d : Int)] 33)
      have ha : Below W.heap.size W (W.alloc (.cells #[.string ot, .string od, .int .u64 (ox.a : Int), .int .u64 (ox.b : Int), .int .u64 (ox.c : Int), .int .u64 (ox.d : Int)] 33)) := (Below.refl _ _).alloc (Nat.le_refl _) _
      obtain ⟨m, hm⟩ : ∃ m, m = (ordsB l j).length := ⟨_, rfl⟩
      rw [← hm] at hO hle ⊢
      have HM := Lib.hid hm
      clear hm ho hck hcc hll
      have x0 := blk_cell hk 0
      have x1 := blk_cell hk 1
      have x2 := blk_cell hk 2
      have x3 := blk_cell hk 3
      have x4 := blk_cell hk 4
      have x5 := blk_cell hk 5
      have hlb := blk_lt hk
      obtain ⟨L1, hL1⟩ : ∃ L1, L1 = [] ++ be ((strBytes ot).take 65535).length 4 ++ (strBytes ot).take 65535 := ⟨_, rfl⟩
      obtain ⟨L2, hL2⟩ : ∃ L2, L2 = L1 ++ be ((strBytes od).take 65535).length 4 ++ (strBytes od).take 65535 := ⟨_, rfl⟩
      obtain ⟨LU, hLU⟩ : ∃ LU, LU = be ox.nat 32 := ⟨_, rfl⟩
      obtain ⟨L3, hL3⟩ : ∃ L3, L3 = L2 ++ be (LU.take 65535).length 4 ++ LU.take 65535 := ⟨_, rfl⟩
      have b1 : L1.length ≤ 65539 := by rw [hL1]; simp [be_length]; omega
      have b2 : L2.length ≤ 131078 := by rw [hL2]; simp [be_length]; omega
      have b3 : L3.length ≤ 196617 := by rw [hL3]; simp [be_length]; omega
      have HE : Hid (orB ⟨ot, od, ox⟩ = L3) := Lib.hid (by rw [hL3, hL2, hL1, hLU]; unfold orB encB; simp)
      have HT : Hid (∀ Z : World, Calls Tryz.prog 69 #[.slice none 0 0, .string ot] Z fun e w' => ∃ v', e = .returned v' ∧ Own w' Z.heap.size v' L1 ∧ Below Z.heap.size Z w') :=
        Lib.hid fun Z => by rw [hL1]; exact T_any (.slice none 0 0) ot [] Z (Rd.nil _ _) f2 (by simp)
      have HT2 : Hid (∀ (v : Value) (Z : World) (B : Nat), Own Z B v L1 → Calls Tryz.prog 69 #[v, .string od] Z fun e w' => ∃ v', e = .returned v' ∧ Own w' Z.heap.size v' L2 ∧ Below Z.heap.size Z w') :=
        Lib.hid fun v Z B h => by rw [hL2]; exact T_any v od L1 Z h.rd f3 (by omega)
      have HY : Hid (∀ Z : World, Calls Tryz.prog 70 #[.agg #[.int .u64 (ox.a : Int), .int .u64 (ox.b : Int), .int .u64 (ox.c : Int), .int .u64 (ox.d : Int)]] Z fun e w' => ∃ v', e = .returned v' ∧ Own w' Z.heap.size v' LU ∧ Below Z.heap.size Z w') :=
        Lib.hid fun Z => by rw [hLU]; exact bytes_any ox Z f1
      have HQ : Hid (∀ (v x : Value) (Z : World) (B B' : Nat), Own Z B v L2 → Own Z B' x LU → Calls Tryz.prog 68 #[v, x] Z fun e w' => ∃ v', e = .returned v' ∧ Own w' Z.heap.size v' L3 ∧ Below Z.heap.size Z w') :=
        Lib.hid fun v x Z B B' h h2 => by rw [hL3]; exact B_any v x L2 LU Z h.rd h2.rd (by omega)
      have hq := below_chain hb hb.size ha
      clear f1 f2 f3 hL1 hL2 hL3 hLU
      generalize hWb : W.alloc (.cells #[.string ot, .string od, .int .u64 (ox.a : Int), .int .u64 (ox.b : Int), .int .u64 (ox.c : Int), .int .u64 (ox.d : Int)] 33) = Wb at *
      have HWB := Lib.hid hWb
      have HOA : Hid (∀ Z, Below Wb.heap.size Wb Z → Own Z w.heap.size (.slice Ab m cb) (ordsB l j)) := Lib.hid fun Z hz => by
        have hWW : Below W.heap.size W Z := below_chain ha ha.size hz
        exact hO.out.below hWW
      have HKB : Hid (∀ Z, Below Wb.heap.size Wb Z → Z.heap[W.heap.size]? = some (.cells #[.string ot, .string od, .int .u64 (ox.a : Int), .int .u64 (ox.b : Int), .int .u64 (ox.c : Int), .int .u64 (ox.d : Int)] 33 (0, 0))) := Lib.hid fun Z hz => (hz.block _ hlb).trans hk
      have HCC : Hid (∀ Z : World, Z.heap[W.heap.size]? = some (.cells #[.string ot, .string od, .int .u64 (ox.a : Int), .int .u64 (ox.b : Int), .int .u64 (ox.c : Int), .int .u64 (ox.d : Int)] 33 (0, 0)) → Z.cell? ⟨W.heap.size, 0, none⟩ = some (.string ot) ∧ Z.cell? ⟨W.heap.size, 1, none⟩ = some (.string od) ∧ Z.cell? ⟨W.heap.size, 2, none⟩ = some (.int .u64 (ox.a : Int)) ∧ Z.cell? ⟨W.heap.size, 3, none⟩ = some (.int .u64 (ox.b : Int)) ∧ Z.cell? ⟨W.heap.size, 4, none⟩ = some (.int .u64 (ox.c : Int)) ∧ Z.cell? ⟨W.heap.size, 5, none⟩ = some (.int .u64 (ox.d : Int))) := Lib.hid fun Z h => ⟨blk_cell h 0, blk_cell h 1, blk_cell h 2, blk_cell h 3, blk_cell h 4, blk_cell h 5⟩
      have HLB := Lib.hid hlb
      have HOB := Lib.hid (fun k (e : (Value.slice Ab m cb).ownBlock = some k) => (hO.out.lt k e).2)
      have hkD : Below Wb.heap.size Wb Wb.drew := Below.drew (Below.refl _ _)
      clear hWb hk x0 x1 x2 x3 x4 x5 hlb
      go_wp2_with fail
      rw [HWB.out]
      go_region_held_law (fun Z => Z.cell? ⟨W.heap.size, 0, none⟩ = some (.string ot) ∧ Z.cell? ⟨W.heap.size, 1, none⟩ = some (.string od) ∧ Z.cell? ⟨W.heap.size, 2, none⟩ = some (.int .u64 (ox.a : Int)) ∧ Z.cell? ⟨W.heap.size, 3, none⟩ = some (.int .u64 (ox.b : Int)) ∧ Z.cell? ⟨W.heap.size, 4, none⟩ = some (.int .u64 (ox.c : Int)) ∧ Z.cell? ⟨W.heap.size, 5, none⟩ = some (.int .u64 (ox.d : Int)))
        (with_reducible first | exact HCC.out _ kb7 | exact HCC.out _ (HKB.out _ hk4) | exact HCC.out _ (HKB.out _ hk3) | exact HCC.out _ (HKB.out _ hk2) | exact HCC.out _ (HKB.out _ hk1) | exact HCC.out _ (HKB.out _ hkD))
        ((first
          | (go_at_call 69; first
              | (refine (HT2.out _ _ _ ho1).mono ?_; rintro e w4 ⟨v4, rfl, ho2, hb4⟩; have hk2 := below_chain hk1 hk1.size hb4)
              | (refine (HT.out _).mono ?_; rintro e w3 ⟨v3, rfl, ho1, hb3⟩; have hk1 := below_chain hkD hkD.size hb3))
          | (go_at_call 70; refine (HY.out _).mono ?_; rintro e w5 ⟨v5, rfl, hoU, hb5⟩; have hk3 := below_chain hk2 hk2.size hb5; have ho2' := ho2.below hb5)
          | (go_at_call 68; refine (HQ.out _ _ _ _ _ ho2' hoU).mono ?_; rintro e w6 ⟨v6, rfl, hoQ, hb6⟩; have hk4 := below_chain hk3 hk3.size hb6)
          | (refine wp_append_rd (v := .slice Ab m cb) (.tmp 16) (.tmp 26) _ rfl i0 Tryz.underlying23 hi hz hsz hby rfl (HOA.out _ hk4) rfl hoQ.rd (by have := HM.out; have := HL.out; omega) (by have := hk4.size; have := hq.size; omega) ?_; intro v7 w7 ho7 hg7 hat7; have kb7 := (hg7.block W.heap.size (by have := hk4.size; have := HLB.out; omega) (fun e => by have := HOB.out _ e.symm; omega)).trans (HKB.out _ hk4))))
      all_goals
        have hq6 := below_chain hq hq.size hk4
        have hq7 := Own.below_grown hq6 (HOA.out _ hk4) (Nat.le_refl _) hq6.size hg7
        have ho8 : Own w7 w.heap.size v7 (ordsB l (j + 1)) := by rw [HNX.out, HE.out]; exact ho7
        clear ho7 hg7 hat7 kb7
        go_wp2_with fail
        exact ⟨⟨j + 1, by omega, by go_num, ho8, hq7⟩, by simp [intOf]; omega⟩
    · have hjn : j = n := by omega
      have i2 : ¬ (j : Int) < (n : Int) := by omega
      subst hjn
      have hO := Lib.hid ho
      obtain ⟨Ab, cb, rfl⟩ := ho.form
      generalize (ordsB l j).length = m at *
      go_wp2_with fail
      go_ret
      exact ⟨_, rfl, hO.out, hb⟩
end Go.Proofs.YtlkbjhhbpmmamaaGreatDoor
namespace Go.Proofs.YtlkbjhhbpmmamaaGreatDoor
set_option maxRecDepth 100000
open Go Go.RowKit
set_option linter.unusedVariables false

def OrdV.cl (o : OrdV) : List Value := [.string o.t, .string o.d, .int .u64 (o.x.a : Int), .int .u64 (o.x.b : Int), .int .u64 (o.x.c : Int), .int .u64 (o.x.d : Int)]
def ocells (l : List OrdV) : List Value := l.flatMap OrdV.cl
theorem ocells_get (l : List OrdV) : ∀ (k : Nat) (o : OrdV), l[k]? = some o → ∀ (i : Nat) (u : Value), o.cl[i]? = some u → (ocells l)[k * 6 + i]? = some u := by
  induction l with
  | nil => intro k o h; simp at h
  | cons q l ih =>
    intro k o h i u hu
    have hi : i < 6 := by
      have := (List.getElem?_eq_some_iff.1 hu).1
      simpa [OrdV.cl] using this
    have e : ocells (q :: l) = q.cl ++ ocells l := rfl
    have hq : q.cl.length = 6 := rfl
    rcases k with _ | k
    · simp at h; subst h
      rw [e, Nat.zero_mul, Nat.zero_add, List.getElem?_append_left (by omega)]
      exact hu
    · have h' := ih k o (by simpa using h) i u hu
      rw [e, List.getElem?_append_right (by omega), hq, show (k + 1) * 6 + i - 6 = k * 6 + i by omega]
      exact h'
theorem Tryz.infoOrd : (Tryz.prog.info? 33).map (fun i => (i.zero, i.size, i.bytes)) = some (some (.agg #[.string ⟨#[]⟩, .string ⟨#[]⟩, .int .u64 0, .int .u64 0, .int .u64 0, .int .u64 0]), 6, 64) := by kernel_rfl

section
variable {w w' : World} {B B' : Nat} {v : Value} {l : List OrdV}
def OwnOr (w : World) (B : Nat) (v : Value) (l : List OrdV) : Prop := w.ownsRow B 33 6 v l.length (ocells l)
theorem OwnOr.nil (w : World) (B : Nat) : OwnOr w B (.slice none 0 0) [] := World.ownsRow_nil w B _ 6
theorem OwnOr.form (h : OwnOr w B v l) : ∃ A c, v = .slice A l.length c := by
  rcases h.2 with ⟨rfl, h0⟩ | ⟨g, cap, cur, rfl, _⟩
  · exact ⟨none, 0, by rw [h0]⟩
  · exact ⟨_, _, rfl⟩
theorem OwnOr.below (h : OwnOr w B v l) (hb : Below w.heap.size w w') : OwnOr w' B v l := by
  refine ⟨h.1, ?_⟩
  rcases h.2 with h0 | ⟨g, cap, cur, hv, hB, hg, rest⟩
  · exact .inl h0
  · exact .inr ⟨g, cap, cur, hv, hB, (hb.block g (blk_lt hg)).trans hg, rest⟩
theorem OwnOr.more (h : OwnOr w B v l) (hB : B' ≤ B) : OwnOr w B' v l := World.ownsRow.mono h hB
theorem OwnOr.lt (h : OwnOr w B v l) : ∀ k, v.ownBlock = some k → B ≤ k ∧ k < w.heap.size := World.ownsRow.lt h
theorem OwnOr.grown (h : OwnOr w B v l) {row : Option Nat} (hg : w.grownBy w' row) (hne : v.ownBlock = none ∨ v.ownBlock ≠ row) : OwnOr w' B v l := World.ownsRow.kept h hg hne
/-- an order of it -/
theorem OwnOr.at_ {A : Option Addr} {n c : Nat} (h : OwnOr w B (.slice A n c) l) (k : Nat) (hk : k < l.length) :
    ∃ g, A = some ⟨g, 0, none⟩ ∧ g < w.heap.size ∧ ∀ (i : Nat) (u : Value), l[k].cl[i]? = some u → w.cell? ⟨g, k * 6 + i, none⟩ = some u := by
  rcases h.2 with ⟨_, h0⟩ | ⟨g, cap, cur, hv, hB, hg, hn, hm, hs, ht⟩
  · omega
  · injection hv with h1 h2 h3
    subst h1; subst h3
    refine ⟨g, rfl, blk_lt hg, fun i u hu => ?_⟩
    have hi : i < 6 := by
      have := (List.getElem?_eq_some_iff.1 hu).1
      simpa [OrdV.cl] using this
    have hc := ocells_get l k _ (List.getElem?_eq_getElem hk) i u hu
    rw [cell_of_row w g (k * 6 + i) cur _ (0, 0) hg, ← hc, ← ht, List.getElem?_take, if_pos (by omega)]
    simp
/-- one order more -/
theorem OwnOr.push (h : OwnOr w B v l) {P : Program} (t ty : TypeId) (i : TypeInfo) (ht : P.underlying t = some (.slice 33)) (hi : P.info? 33 = some i) {z : Value} (hz : i.zero = some z) (hsize : i.size = 6) (hby : i.bytes = 64) (hzs : z.cells.size = 6)
    (o : OrdV) {b off c : Nat} (hnews : ∀ j u, o.cl[j]? = some u → w.cell? ((⟨b, off, none⟩ : Addr).add j) = some u) (hlen : l.length ≤ 1000) (hB : B ≤ w.heap.size) :
    ∃ v' w', (Builtin.append_ #[t, t] ty #[v, .slice (some ⟨b, off, none⟩) 1 c]).run P w = .ok v' w' ∧ OwnOr w' B v' (l ++ [o]) ∧ w.grownBy w' v.ownBlock := by
  obtain ⟨v', w', hrun, ho2, hgr, _, hat⟩ := run_append_own_at (P := P) w B t ty 33 i z 6 64 ht hi hz hsize hby hzs (by omega) v l.length (ocells l) h ⟨b, off, none⟩ 1 c o.cl
    rfl hnews (fun u hu => by
      simp only [OrdV.cl, List.mem_cons, List.not_mem_nil, or_false] at hu
      rcases hu with rfl | rfl | rfl | rfl | rfl | rfl <;> rfl) (by simp only [maxLen]; omega) (by omega) hB
  refine ⟨v', w', hrun, ?_, hgr⟩
  have e : ocells (l ++ [o]) = ocells l ++ o.cl := by simp [ocells]
  unfold OwnOr
  rw [e, List.length_append]
  exact ho2
theorem wp_append_ord {P : Program} {o : Oper} {a : Act} {K : Act → World → Prop} {Q : Exit → Act → World → Prop} (sv sx : Operand) (t : TypeId)
    (ho : o.op = .call { callee := .builtin .append, args := #[sv, sx], argTypes := #[t, t] })
    (i : TypeInfo) (ht : P.underlying t = some (.slice 33)) (hi : P.info? 33 = some i) {z : Value} (hz : i.zero = some z) (hsize : i.size = 6) (hby : i.bytes = 64) (hzs : z.cells.size = 6)
    (hs : a.eval sv = v) (hown : OwnOr w B v l) (x : OrdV) {b off c : Nat} (hxe : a.eval sx = .slice (some ⟨b, off, none⟩) 1 c) (hnews : ∀ j u, x.cl[j]? = some u → w.cell? ((⟨b, off, none⟩ : Addr).add j) = some u) (hlen : l.length ≤ 1000) (hbase : B ≤ w.heap.size)
    (h : ∀ v' w', OwnOr w' B v' (l ++ [x]) → w.grownBy w' v.ownBlock → K (a.put o.dst v') w') : o.wp P a w K Q := by
  obtain ⟨v', w', hrun, h2, h3⟩ := hown.push (P := P) t o.type i ht hi hz hsize hby hzs x hnews hlen hbase
  unfold Oper.wp execOp
  simp only [ho, resolve, invoke, builtin, Sem.run_bind, Sem.run_pure, Result.andThen_ok, List.map_toArray, List.map_cons, List.map_nil, hs, hxe]
  rw [hrun]
  exact h v' w' h2 h3
theorem wpList_append_ord {P : Program} {ops : Array Oper} {rest : List Oper} {o : Oper} {a : Act} {Q : Exit → Act → World → Prop} (hgd : o.guard = none) (sv sx : Operand) (t : TypeId)
    (ho : o.op = .call { callee := .builtin .append, args := #[sv, sx], argTypes := #[t, t] })
    (i : TypeInfo) (ht : P.underlying t = some (.slice 33)) (hi : P.info? 33 = some i) {z : Value} (hz : i.zero = some z) (hsize : i.size = 6) (hby : i.bytes = 64) (hzs : z.cells.size = 6)
    (hs : a.eval sv = v) (hown : OwnOr w B v l) (x : OrdV) {b off c : Nat} (hxe : a.eval sx = .slice (some ⟨b, off, none⟩) 1 c) (hnews : ∀ j u, x.cl[j]? = some u → w.cell? ((⟨b, off, none⟩ : Addr).add j) = some u) (hlen : l.length ≤ 1000) (hbase : B ≤ w.heap.size)
    (h : ∀ v' w', OwnOr w' B v' (l ++ [x]) → w.grownBy w' v.ownBlock → wpList P ops Q rest (a.put o.dst v') w') : wpList P ops Q (o :: rest) a w := by
  refine wpList_plain hgd fun K hK => ?_
  exact wp_append_ord sv sx t ho i ht hi hz hsize hby hzs hs hown x hxe hnews hlen hbase fun v' w' h1 h2 => hK _ _ (h v' w' h1 h2)
end
end Go.Proofs.YtlkbjhhbpmmamaaGreatDoor
namespace Go.Proofs.YtlkbjhhbpmmamaaGreatDoor
set_option maxRecDepth 100000
open Go Go.RowKit
set_option linter.unusedVariables false

/-- What a reader has behind j orders: the orders, the rest, the fault, and the last error of an amount. -/
structure OSt where
  acc : List OrdV
  rest : List UInt8
  fault : Int
  bad : Int
def OSt.o (s : OSt) : OrdV := ⟨⟨(rB s.rest s.fault).1.toArray⟩, ⟨(rB (rB s.rest s.fault).2.1 (rB s.rest s.fault).2.2).1.toArray⟩,
  (fromU (rB (rB (rB s.rest s.fault).2.1 (rB s.rest s.fault).2.2).2.1 (rB (rB s.rest s.fault).2.1 (rB s.rest s.fault).2.2).2.2).1).1⟩
def OSt.third (s : OSt) : List UInt8 × List UInt8 × Int := rB (rB (rB s.rest s.fault).2.1 (rB s.rest s.fault).2.2).2.1 (rB (rB s.rest s.fault).2.1 (rB s.rest s.fault).2.2).2.2
def OSt.next (s : OSt) : OSt := ⟨s.acc ++ [s.o], s.third.2.1, s.third.2.2, if (fromU s.third.1).2 = 0 then s.bad else (fromU s.third.1).2⟩
def OSt.at (s : OSt) : Nat → OSt
  | 0 => s
  | j + 1 => (s.at j).next
theorem OSt.at_acc (s : OSt) (j : Nat) : (s.at j).acc.length = s.acc.length + j := by
  induction j with
  | zero => rfl
  | succ j ih => simp [OSt.at, OSt.next, ih]; omega
theorem OSt.next_bad {s : OSt} (h : s.next.bad = 0) : s.bad = 0 ∧ (fromU s.third.1).2 = 0 := by
  unfold OSt.next at h
  dsimp only at h
  split at h
  · next e => exact ⟨h, e⟩
  · next e => exact absurd h e
theorem OSt.bad_stays {s : OSt} {j : Nat} (h : (s.at j).bad ≠ 0) : ∀ k, (s.at (j + k)).bad ≠ 0 := by
  intro k
  induction k with
  | zero => exact h
  | succ k ih => exact fun e => ih (OSt.next_bad (s := s.at (j + k)) e).1
/-- what a whole order took is what its form is -/
theorem OSt.next_ok {s : OSt} (hb : s.next.bad = 0) (hf : s.next.fault = 0) : s.fault = 0 ∧ s.rest = orB s.o ++ s.next.rest := by
  have h2 := (OSt.next_bad hb).2
  have hf' : s.third.2.2 = 0 := hf
  unfold OSt.third at hf' h2
  obtain ⟨e2, l3⟩ := rB_ok hf'
  obtain ⟨e1, l2⟩ := rB_ok e2
  obtain ⟨e0, l1⟩ := rB_ok e1
  refine ⟨e0, ?_⟩
  have hu : be (fromU s.third.1).1.nat 32 = s.third.1 := by
    rcases fromU_cases s.third.1 with h | h
    · exact h.2
    · unfold OSt.third at h; rw [h2] at h; exact absurd h (by decide)
  rw [l1, l2, l3]
  unfold orB OSt.o OSt.next
  dsimp only
  unfold OSt.third at hu ⊢
  rw [hu]
  simp [strBytes]
theorem OSt.all_ok {s : OSt} (j : Nat) (hb : (s.at j).bad = 0) (hf : (s.at j).fault = 0) (ha : s.acc = []) :
    s.fault = 0 ∧ s.rest = (s.at j).acc.flatMap orB ++ (s.at j).rest := by
  induction j with
  | zero => exact ⟨hf, by simp [OSt.at, ha]⟩
  | succ j ih =>
    have h1 := OSt.next_bad (s := s.at j) hb
    obtain ⟨h2, h3⟩ := OSt.next_ok (s := s.at j) hb hf
    obtain ⟨h4, h5⟩ := ih h1.1 h2
    refine ⟨h4, ?_⟩
    rw [h5, h3]
    simp [OSt.at, OSt.next]
/-- a reader's orders: the count, then as many -/
def ordsR (b : List UInt8) : OSt := (OSt.mk [] (rC 8 b 0).2.1 (rC 8 b 0).2.2 0).at (rC 8 b 0).1.toNat
theorem rC_back {most : Int} {l : List UInt8} (h : (rC most l 0).2.2 = 0) : l = be (rC most l 0).1.toNat 8 ++ (rC most l 0).2.1 := by
  unfold rC at h ⊢
  rw [if_neg (by simp)] at h ⊢
  split at h
  · exact absurd h (fun e => by simp at e)
  · next h1 =>
    split at h
    · exact absurd h (fun e => by simp at e)
    · next h2 =>
      rw [if_neg h1, if_neg h2]
      dsimp only
      have h8 := be_beVal (l.take 8)
      rw [show (l.take 8).length = 8 by simp; omega] at h8
      rw [Int.toNat_natCast, h8, List.take_append_drop]
theorem orders_back {b : List UInt8} (hb : (ordsR b).bad = 0) (he : rEnd (ordsR b).rest (ordsR b).fault = 0) : b = ordsB (ordsR b).acc (ordsR b).acc.length := by
  have hf : (ordsR b).fault = 0 := by
    unfold rEnd at he
    split at he
    · next h => exact absurd he h
    · next h => omega
  have hr : (ordsR b).rest = [] := by
    unfold rEnd at he
    rw [if_neg (by simp [hf])] at he
    split at he
    · exact absurd he (by decide)
    · next h => exact List.eq_nil_of_length_eq_zero (by omega)
  have hl : (ordsR b).acc.length = (rC 8 b 0).1.toNat := by
    unfold ordsR
    rw [OSt.at_acc]
    simp
  obtain ⟨h1, h2⟩ := OSt.all_ok (s := OSt.mk [] (rC 8 b 0).2.1 (rC 8 b 0).2.2 0) (rC 8 b 0).1.toNat hb hf rfl
  have h3 := rC_back (most := 8) (l := b) h1
  dsimp only at h2
  change (rC 8 b 0).2.1 = (ordsR b).acc.flatMap orB ++ (ordsR b).rest at h2
  rw [hr, List.append_nil] at h2
  unfold ordsB
  rw [hl, List.take_of_length_le (by omega), ← h2]
  exact h3
end Go.Proofs.YtlkbjhhbpmmamaaGreatDoor
