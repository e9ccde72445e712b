
/- Orders in bytes: the program's. Rows of orders, of the call's own: read, appended to. Orders out of bytes: what is read, place by place; what was read whole is written back. The program's orders out of bytes. Orders: what was read is fit to be written; a row of one's own is one that is handed in. -/
import Derived.Test.YtcgkonpepmoliaaGreatDoorWireW0
import Derived.Test.YtcgkonpepmoliaaGreatDoorEncB1
import Derived.Test.YtcgkonpepmoliaaGreatDoorLimbX0
import Derived.Deep.RegionLaw
import Derived.Deep.RegionHeldLaw
import Derived.Test.YtcgkonpepmoliaaGreatDoorLimbN0
namespace Go.Proofs.YtcgkonpepmoliaaGreatDoor
set_option maxRecDepth 100000
open Go Go.RowKit
set_option linter.unusedVariables false

structure OrdV where
  t : ByteArray
  d : ByteArray
  x : U4
def OrdV.cells (o : OrdV) : Array Value := #[.string o.t, .string o.d, .int .u64 (o.x.a : Int), .int .u64 (o.x.b : Int), .int .u64 (o.x.c : Int), .int .u64 (o.x.d : Int)]
def OrdsAt (W : World) (v : Value) (l : List OrdV) : Prop := ∃ A c, v = .slice A l.length c ∧ (0 < l.length → ∃ b o, A = some ⟨b, o, none⟩ ∧ b < W.heap.size ∧
  ∀ (j : Nat) (h : j < l.length) (i : Nat) (u : Value), i < 6 → l[j].cells[i]? = some u → W.cell? ⟨b, o + j * 6 + i, none⟩ = some u)
def orB (o : OrdV) : List UInt8 := encB (strBytes o.t) ++ encB (strBytes o.d) ++ encB (be o.x.nat 32)
def ordsB (l : List OrdV) (j : Nat) : List UInt8 := be l.length 8 ++ (l.take j).flatMap orB
theorem encB_lenO (m : List UInt8) : (encB m).length ≤ 65539 := by
  unfold encB
  simp [be_length]
  omega
theorem orB_len (o : OrdV) : (orB o).length ≤ 196617 := by
  have h1 := encB_lenO (strBytes o.t)
  have h2 := encB_lenO (strBytes o.d)
  have h3 := encB_lenO (be o.x.nat 32)
  unfold orB
  simp only [List.length_append]
  omega
theorem ordsB_next (l : List OrdV) (j : Nat) (h : j < l.length) : ordsB l (j + 1) = ordsB l j ++ orB l[j] := by
  unfold ordsB
  rw [List.take_succ_eq_append_getElem h, List.flatMap_append]
  simp
theorem flat_lenO (l : List OrdV) : (l.flatMap orB).length ≤ l.length * 196617 := by
  induction l with
  | nil => simp
  | cons o l ih =>
    have := orB_len o
    simp only [List.flatMap_cons, List.length_append, List.length_cons]
    omega
theorem ordsB_len (l : List OrdV) (j : Nat) : (ordsB l j).length ≤ l.length * 196617 + 8 := by
  have h := flat_lenO (l.take j)
  have h2 : (l.take j).length ≤ l.length := by simp; omega
  unfold ordsB
  simp only [List.length_append, be_length]
  omega
set_option maxHeartbeats 8000000 in
theorem icb_any (w : World) (v : Value) (l : List OrdV) (hv : OrdsAt w v l) (hx : ∀ o ∈ l, o.x.ok ∧ o.t.size ≤ maxLen ∧ o.d.size ≤ maxLen) (hn : l.length ≤ 1048576) :
    Calls Tryz.prog 14 #[v] w fun e w' => ∃ v', e = .returned v' ∧ Own w' w.heap.size v' (ordsB l l.length) ∧ Below w.heap.size w w' := by
  obtain ⟨i0, hi, hz, hsz, hby⟩ := info_parts Tryz.infoByte
  obtain ⟨A, c, rfl, hc⟩ := hv
  have HN := Lib.hid (N_any (.slice none 0 0) [] l.length w (Rd.nil _ _) (by omega) (by simp))
  have HC := Lib.hid hc
  have HX := Lib.hid hx
  have HB := Lib.hid (fun j => ordsB_len l j)
  have HS := Lib.hid (fun j h => ordsB_next l j h)
  have H0 := Lib.hid (show ordsB l 0 = [] ++ be l.length 8 by unfold ordsB; simp)
  obtain ⟨n, hnl⟩ : ∃ n, n = l.length := ⟨_, rfl⟩
  have HL := Lib.hid hnl
  rw [← hnl] at HN ⊢
  clear hx hc
  have hn' : n ≤ 1048576 := by omega
  clear hnl hn
  go_enter Tryz.func14, Tryz.ntmps14
  go_wp2_with fail
  try rw [show IntKind.u64.wrap (n : Int) = (n : Int) by go_num]
  refine HN.out.mono ?_
  rintro e w1 ⟨v1, rfl, ho1, hb1⟩
  rw [HL.out, ← H0.out] at ho1
  clear HN
  go_wp2_with fail
  go_loopw [3, 12] (fun b i W => ∃ j : Nat, j ≤ n ∧ i = .int .i64 (j : Int) ∧ Own W w.heap.size b (ordsB l j) ∧ Below w.heap.size w W)
    (fun _ i _ => n - (intOf i).toNat)
  case atStart => exact ⟨0, by omega, rfl, ho1, hb1⟩
  case round =>
    rename World => W
    obtain ⟨j, hj, rfl, ho, hb⟩ := hrel
    clear ho1 hb1
    by_cases hlt : j < n
    · have i1 : (0 : Int) ≤ (j : Int) := by omega
      have i2 : (j : Int) < (n : Int) := by omega
      have hjl : j < l.length := by have := HL.out; omega
      obtain ⟨g, o, rfl, hgl, hcell⟩ := HC.out (by omega)
      have hck := hcell j hjl
      have hok := HX.out _ (List.getElem_mem hjl)
      have hle := HB.out j
      have hnx := HS.out j hjl
      have hll := HL.out
      have HNX := Lib.hid hnx
      clear hcell hnx
      generalize l[j] = op at *
      obtain ⟨ot, od, ox⟩ := op
      dsimp only at hok
      obtain ⟨f1, f2, f3⟩ := hok
      have hcc : ∀ i u, i < 6 → (OrdV.mk ot od ox).cells[i]? = some u → W.cell? ⟨g, o + j * 6 + i, none⟩ = some u := fun i u hi e =>
        (hb.cell (p := ⟨g, o + j * 6 + i, none⟩) hgl).trans (hck i u hi e)
      have e0 : W.cell? ⟨g, o + j * 6, none⟩ = some (.string ot) := hcc 0 _ (by omega) rfl
      have e1 : W.cell? ⟨g, o + j * 6 + 1, none⟩ = some (.string od) := hcc 1 _ (by omega) rfl
      have e2 : W.cell? ⟨g, o + j * 6 + 2, none⟩ = some (.int .u64 (ox.a : Int)) := hcc 2 _ (by omega) rfl
      have e3 : W.cell? ⟨g, o + j * 6 + 3, none⟩ = some (.int .u64 (ox.b : Int)) := hcc 3 _ (by omega) rfl
      have e4 : W.cell? ⟨g, o + j * 6 + 4, none⟩ = some (.int .u64 (ox.c : Int)) := hcc 4 _ (by omega) rfl
      have e5 : W.cell? ⟨g, o + j * 6 + 5, none⟩ = some (.int .u64 (ox.d : Int)) := hcc 5 _ (by omega) rfl
      have hO := Lib.hid ho
      obtain ⟨Ab, cb, rfl⟩ := ho.form
      have hk := heap_alloc_new W (.cells #[.string ot, .string od, .int .u64 (ox.a : Int), .int .u64 (ox.b : Int), .int .u64 (ox.c : Int), .int .u64 (ox.d : Int)] 37)
      have ha : Below W.heap.size W (W.alloc (.cells #[.string ot, .string od, .int .u64 (ox.a : Int), .int .u64 (ox.b : Int), .int .u64 (ox.c : Int), .int .u64 (ox.d : Int)] 37)) := (Below.refl _ _).alloc (Nat.le_refl _) _
      obtain ⟨m, hm⟩ : ∃ m, m = (ordsB l j).length := ⟨_, rfl⟩
      rw [← hm] at hO hle ⊢
      have HM := Lib.hid hm
      clear hm ho hck hcc hll
      have x0 := blk_cell hk 0
      have x1 := blk_cell hk 1
      have x2 := blk_cell hk 2
      have x3 := blk_cell hk 3
      have x4 := blk_cell hk 4
      have x5 := blk_cell hk 5
      have hlb := blk_lt hk
      obtain ⟨L1, hL1⟩ : ∃ L1, L1 = [] ++ be ((strBytes ot).take 65535).length 4 ++ (strBytes ot).take 65535 := ⟨_, rfl⟩
      obtain ⟨L2, hL2⟩ : ∃ L2, L2 = L1 ++ be ((strBytes od).take 65535).length 4 ++ (strBytes od).take 65535 := ⟨_, rfl⟩
      obtain ⟨LU, hLU⟩ : ∃ LU, LU = be ox.nat 32 := ⟨_, rfl⟩
      obtain ⟨L3, hL3⟩ : ∃ L3, L3 = L2 ++ be (LU.take 65535).length 4 ++ LU.take 65535 := ⟨_, rfl⟩
      have b1 : L1.length ≤ 65539 := by rw [hL1]; simp [be_length]; omega
      have b2 : L2.length ≤ 131078 := by rw [hL2]; simp [be_length]; omega
      have b3 : L3.length ≤ 196617 := by rw [hL3]; simp [be_length]; omega
      have HE : Hid (orB ⟨ot, od, ox⟩ = L3) := Lib.hid (by rw [hL3, hL2, hL1, hLU]; unfold orB encB; simp)
      have HT : Hid (∀ Z : World, Calls Tryz.prog 47 #[.slice none 0 0, .string ot] Z fun e w' => ∃ v', e = .returned v' ∧ Own w' Z.heap.size v' L1 ∧ Below Z.heap.size Z w') :=
        Lib.hid fun Z => by rw [hL1]; exact T_any (.slice none 0 0) ot [] Z (Rd.nil _ _) f2 (by simp)
      have HT2 : Hid (∀ (v : Value) (Z : World) (B : Nat), Own Z B v L1 → Calls Tryz.prog 47 #[v, .string od] Z fun e w' => ∃ v', e = .returned v' ∧ Own w' Z.heap.size v' L2 ∧ Below Z.heap.size Z w') :=
        Lib.hid fun v Z B h => by rw [hL2]; exact T_any v od L1 Z h.rd f3 (by omega)
      have HY : Hid (∀ Z : World, Calls Tryz.prog 48 #[.agg #[.int .u64 (ox.a : Int), .int .u64 (ox.b : Int), .int .u64 (ox.c : Int), .int .u64 (ox.d : Int)]] Z fun e w' => ∃ v', e = .returned v' ∧ Own w' Z.heap.size v' LU ∧ Below Z.heap.size Z w') :=
        Lib.hid fun Z => by rw [hLU]; exact bytes_any ox Z f1
      have HQ : Hid (∀ (v x : Value) (Z : World) (B B' : Nat), Own Z B v L2 → Own Z B' x LU → Calls Tryz.prog 46 #[v, x] Z fun e w' => ∃ v', e = .returned v' ∧ Own w' Z.heap.size v' L3 ∧ Below Z.heap.size Z w') :=
        Lib.hid fun v x Z B B' h h2 => by rw [hL3]; exact B_any v x L2 LU Z h.rd h2.rd (by omega)
      have hq := below_chain hb hb.size ha
      clear f1 f2 f3 hL1 hL2 hL3 hLU
      generalize hWb : W.alloc (.cells #[.string ot, .string od, .int .u64 (ox.a : Int), .int .u64 (ox.b : Int), .int .u64 (ox.c : Int), .int .u64 (ox.d : Int)] 37) = Wb at *
      have HWB := Lib.hid hWb
      have HOA : Hid (∀ Z, Below Wb.heap.size Wb Z → Own Z w.heap.size (.slice Ab m cb) (ordsB l j)) := Lib.hid fun Z hz => by
        have hWW : Below W.heap.size W Z := below_chain ha ha.size hz
        exact hO.out.below hWW
      have HKB : Hid (∀ Z, Below Wb.heap.size Wb Z → Z.heap[W.heap.size]? = some (.cells #[.string ot, .string od, .int .u64 (ox.a : Int), .int .u64 (ox.b : Int), .int .u64 (ox.c : Int), .int .u64 (ox.d : Int)] 37 (0, 0))) := Lib.hid fun Z hz => (hz.block _ hlb).trans hk
      have HCC : Hid (∀ Z : World, Z.heap[W.heap.size]? = some (.cells #[.string ot, .string od, .int .u64 (ox.a : Int), .int .u64 (ox.b : Int), .int .u64 (ox.c : Int), .int .u64 (ox.d : Int)] 37 (0, 0)) → Z.cell? ⟨W.heap.size, 0, none⟩ = some (.string ot) ∧ Z.cell? ⟨W.heap.size, 1, none⟩ = some (.string od) ∧ Z.cell? ⟨W.heap.size, 2, none⟩ = some (.int .u64 (ox.a : Int)) ∧ Z.cell? ⟨W.heap.size, 3, none⟩ = some (.int .u64 (ox.b : Int)) ∧ Z.cell? ⟨W.heap.size, 4, none⟩ = some (.int .u64 (ox.c : Int)) ∧ Z.cell? ⟨W.heap.size, 5, none⟩ = some (.int .u64 (ox.d : Int))) := Lib.hid fun Z h => ⟨blk_cell h 0, blk_cell h 1, blk_cell h 2, blk_cell h 3, blk_cell h 4, blk_cell h 5⟩
      have HLB := Lib.hid hlb
      have HOB := Lib.hid (fun k (e : (Value.slice Ab m cb).ownBlock = some k) => (hO.out.lt k e).2)
      have hkD : Below Wb.heap.size Wb Wb.drew := Below.drew (Below.refl _ _)
      clear hWb hk x0 x1 x2 x3 x4 x5 hlb
      go_wp2_with fail
      rw [HWB.out]
      go_region_held_law (fun Z => Z.cell? ⟨W.heap.size, 0, none⟩ = some (.string ot) ∧ Z.cell? ⟨W.heap.size, 1, none⟩ = some (.string od) ∧ Z.cell? ⟨W.heap.size, 2, none⟩ = some (.int .u64 (ox.a : Int)) ∧ Z.cell? ⟨W.heap.size, 3, none⟩ = some (.int .u64 (ox.b : Int)) ∧ Z.cell? ⟨W.heap.size, 4, none⟩ = some (.int .u64 (ox.c : Int)) ∧ Z.cell? ⟨W.heap.size, 5, none⟩ = some (.int .u64 (ox.d : Int)))
        (with_reducible first | exact HCC.out _ kb7 | exact HCC.out _ (HKB.out _ hk4) | exact HCC.out _ (HKB.out _ hk3) | exact HCC.out _ (HKB.out _ hk2) | exact HCC.out _ (HKB.out _ hk1) | exact HCC.out _ (HKB.out _ hkD))
        ((first
          | (go_at_call 47; first
              | (refine (HT2.out _ _ _ ho1).mono ?_; rintro e w4 ⟨v4, rfl, ho2, hb4⟩; have hk2 := below_chain hk1 hk1.size hb4)
              | (refine (HT.out _).mono ?_; rintro e w3 ⟨v3, rfl, ho1, hb3⟩; have hk1 := below_chain hkD hkD.size hb3))
          | (go_at_call 48; refine (HY.out _).mono ?_; rintro e w5 ⟨v5, rfl, hoU, hb5⟩; have hk3 := below_chain hk2 hk2.size hb5; have ho2' := ho2.below hb5)
          | (go_at_call 46; refine (HQ.out _ _ _ _ _ ho2' hoU).mono ?_; rintro e w6 ⟨v6, rfl, hoQ, hb6⟩; have hk4 := below_chain hk3 hk3.size hb6)
          | (refine wp_append_rd (v := .slice Ab m cb) (.tmp 16) (.tmp 26) _ rfl i0 Tryz.underlying40 hi hz hsz hby rfl (HOA.out _ hk4) rfl hoQ.rd (by have := HM.out; have := HL.out; omega) (by have := hk4.size; have := hq.size; omega) ?_; intro v7 w7 ho7 hg7 hat7; have kb7 := (hg7.block W.heap.size (by have := hk4.size; have := HLB.out; omega) (fun e => by have := HOB.out _ e.symm; omega)).trans (HKB.out _ hk4))))
      all_goals
        have hq6 := below_chain hq hq.size hk4
        have hq7 := Own.below_grown hq6 (HOA.out _ hk4) (Nat.le_refl _) hq6.size hg7
        have ho8 : Own w7 w.heap.size v7 (ordsB l (j + 1)) := by rw [HNX.out, HE.out]; exact ho7
        clear ho7 hg7 hat7 kb7
        go_wp2_with fail
        exact ⟨⟨j + 1, by omega, by go_num, ho8, hq7⟩, by simp [intOf]; omega⟩
    · have hjn : j = n := by omega
      have i2 : ¬ (j : Int) < (n : Int) := by omega
      subst hjn
      have hO := Lib.hid ho
      obtain ⟨Ab, cb, rfl⟩ := ho.form
      generalize (ordsB l j).length = m at *
      go_wp2_with fail
      go_ret
      exact ⟨_, rfl, hO.out, hb⟩
end Go.Proofs.YtcgkonpepmoliaaGreatDoor
namespace Go.Proofs.YtcgkonpepmoliaaGreatDoor
set_option maxRecDepth 100000
open Go Go.RowKit
set_option linter.unusedVariables false

def OrdV.cl (o : OrdV) : List Value := [.string o.t, .string o.d, .int .u64 (o.x.a : Int), .int .u64 (o.x.b : Int), .int .u64 (o.x.c : Int), .int .u64 (o.x.d : Int)]
def ocells (l : List OrdV) : List Value := l.flatMap OrdV.cl
theorem ocells_get (l : List OrdV) : ∀ (k : Nat) (o : OrdV), l[k]? = some o → ∀ (i : Nat) (u : Value), o.cl[i]? = some u → (ocells l)[k * 6 + i]? = some u := by
  induction l with
  | nil => intro k o h; simp at h
  | cons q l ih =>
    intro k o h i u hu
    have hi : i < 6 := by
      have := (List.getElem?_eq_some_iff.1 hu).1
      simpa [OrdV.cl] using this
    have e : ocells (q :: l) = q.cl ++ ocells l := rfl
    have hq : q.cl.length = 6 := rfl
    rcases k with _ | k
    · simp at h; subst h
      rw [e, Nat.zero_mul, Nat.zero_add, List.getElem?_append_left (by omega)]
      exact hu
    · have h' := ih k o (by simpa using h) i u hu
      rw [e, List.getElem?_append_right (by omega), hq, show (k + 1) * 6 + i - 6 = k * 6 + i by omega]
      exact h'
theorem Tryz.infoOrd : (Tryz.prog.info? 37).map (fun i => (i.zero, i.size, i.bytes)) = some (some (.agg #[.string ⟨#[]⟩, .string ⟨#[]⟩, .int .u64 0, .int .u64 0, .int .u64 0, .int .u64 0]), 6, 64) := by kernel_rfl

section
variable {w w' : World} {B B' : Nat} {v : Value} {l : List OrdV}
def OwnOr (w : World) (B : Nat) (v : Value) (l : List OrdV) : Prop := w.ownsRow B 37 6 v l.length (ocells l)
theorem OwnOr.nil (w : World) (B : Nat) : OwnOr w B (.slice none 0 0) [] := World.ownsRow_nil w B _ 6
theorem OwnOr.form (h : OwnOr w B v l) : ∃ A c, v = .slice A l.length c := by
  rcases h.2 with ⟨rfl, h0⟩ | ⟨g, cap, cur, rfl, _⟩
  · exact ⟨none, 0, by rw [h0]⟩
  · exact ⟨_, _, rfl⟩
theorem OwnOr.below (h : OwnOr w B v l) (hb : Below w.heap.size w w') : OwnOr w' B v l := by
  refine ⟨h.1, ?_⟩
  rcases h.2 with h0 | ⟨g, cap, cur, hv, hB, hg, rest⟩
  · exact .inl h0
  · exact .inr ⟨g, cap, cur, hv, hB, (hb.block g (blk_lt hg)).trans hg, rest⟩
theorem OwnOr.more (h : OwnOr w B v l) (hB : B' ≤ B) : OwnOr w B' v l := World.ownsRow.mono h hB
theorem OwnOr.lt (h : OwnOr w B v l) : ∀ k, v.ownBlock = some k → B ≤ k ∧ k < w.heap.size := World.ownsRow.lt h
theorem OwnOr.grown (h : OwnOr w B v l) {row : Option Nat} (hg : w.grownBy w' row) (hne : v.ownBlock = none ∨ v.ownBlock ≠ row) : OwnOr w' B v l := World.ownsRow.kept h hg hne
/-- an order of it -/
theorem OwnOr.at_ {A : Option Addr} {n c : Nat} (h : OwnOr w B (.slice A n c) l) (k : Nat) (hk : k < l.length) :
    ∃ g, A = some ⟨g, 0, none⟩ ∧ g < w.heap.size ∧ ∀ (i : Nat) (u : Value), l[k].cl[i]? = some u → w.cell? ⟨g, k * 6 + i, none⟩ = some u := by
  rcases h.2 with ⟨_, h0⟩ | ⟨g, cap, cur, hv, hB, hg, hn, hm, hs, ht⟩
  · omega
  · injection hv with h1 h2 h3
    subst h1; subst h3
    refine ⟨g, rfl, blk_lt hg, fun i u hu => ?_⟩
    have hi : i < 6 := by
      have := (List.getElem?_eq_some_iff.1 hu).1
      simpa [OrdV.cl] using this
    have hc := ocells_get l k _ (List.getElem?_eq_getElem hk) i u hu
    rw [cell_of_row w g (k * 6 + i) cur _ (0, 0) hg, ← hc, ← ht, List.getElem?_take, if_pos (by omega)]
    simp
/-- one order more -/
theorem OwnOr.push (h : OwnOr w B v l) {P : Program} (t ty : TypeId) (i : TypeInfo) (ht : P.underlying t = some (.slice 37)) (hi : P.info? 37 = some i) {z : Value} (hz : i.zero = some z) (hsize : i.size = 6) (hby : i.bytes = 64) (hzs : z.cells.size = 6)
    (o : OrdV) {b off c : Nat} (hnews : ∀ j u, o.cl[j]? = some u → w.cell? ((⟨b, off, none⟩ : Addr).add j) = some u) (hlen : l.length ≤ 1000) (hB : B ≤ w.heap.size) :
    ∃ v' w', (Builtin.append_ #[t, t] ty #[v, .slice (some ⟨b, off, none⟩) 1 c]).run P w = .ok v' w' ∧ OwnOr w' B v' (l ++ [o]) ∧ w.grownBy w' v.ownBlock := by
  obtain ⟨v', w', hrun, ho2, hgr, _, hat⟩ := run_append_own_at (P := P) w B t ty 37 i z 6 64 ht hi hz hsize hby hzs (by omega) v l.length (ocells l) h ⟨b, off, none⟩ 1 c o.cl
    rfl hnews (fun u hu => by
      simp only [OrdV.cl, List.mem_cons, List.not_mem_nil, or_false] at hu
      rcases hu with rfl | rfl | rfl | rfl | rfl | rfl <;> rfl) (by simp only [maxLen]; omega) (by omega) hB
  refine ⟨v', w', hrun, ?_, hgr⟩
  have e : ocells (l ++ [o]) = ocells l ++ o.cl := by simp [ocells]
  unfold OwnOr
  rw [e, List.length_append]
  exact ho2
theorem wp_append_ord {P : Program} {o : Oper} {a : Act} {K : Act → World → Prop} {Q : Exit → Act → World → Prop} (sv sx : Operand) (t : TypeId)
    (ho : o.op = .call { callee := .builtin .append, args := #[sv, sx], argTypes := #[t, t] })
    (i : TypeInfo) (ht : P.underlying t = some (.slice 37)) (hi : P.info? 37 = some i) {z : Value} (hz : i.zero = some z) (hsize : i.size = 6) (hby : i.bytes = 64) (hzs : z.cells.size = 6)
    (hs : a.eval sv = v) (hown : OwnOr w B v l) (x : OrdV) {b off c : Nat} (hxe : a.eval sx = .slice (some ⟨b, off, none⟩) 1 c) (hnews : ∀ j u, x.cl[j]? = some u → w.cell? ((⟨b, off, none⟩ : Addr).add j) = some u) (hlen : l.length ≤ 1000) (hbase : B ≤ w.heap.size)
    (h : ∀ v' w', OwnOr w' B v' (l ++ [x]) → w.grownBy w' v.ownBlock → K (a.put o.dst v') w') : o.wp P a w K Q := by
  obtain ⟨v', w', hrun, h2, h3⟩ := hown.push (P := P) t o.type i ht hi hz hsize hby hzs x hnews hlen hbase
  unfold Oper.wp execOp
  simp only [ho, resolve, invoke, builtin, Sem.run_bind, Sem.run_pure, Result.andThen_ok, List.map_toArray, List.map_cons, List.map_nil, hs, hxe]
  rw [hrun]
  exact h v' w' h2 h3
theorem wpList_append_ord {P : Program} {ops : Array Oper} {rest : List Oper} {o : Oper} {a : Act} {Q : Exit → Act → World → Prop} (hgd : o.guard = none) (sv sx : Operand) (t : TypeId)
    (ho : o.op = .call { callee := .builtin .append, args := #[sv, sx], argTypes := #[t, t] })
    (i : TypeInfo) (ht : P.underlying t = some (.slice 37)) (hi : P.info? 37 = some i) {z : Value} (hz : i.zero = some z) (hsize : i.size = 6) (hby : i.bytes = 64) (hzs : z.cells.size = 6)
    (hs : a.eval sv = v) (hown : OwnOr w B v l) (x : OrdV) {b off c : Nat} (hxe : a.eval sx = .slice (some ⟨b, off, none⟩) 1 c) (hnews : ∀ j u, x.cl[j]? = some u → w.cell? ((⟨b, off, none⟩ : Addr).add j) = some u) (hlen : l.length ≤ 1000) (hbase : B ≤ w.heap.size)
    (h : ∀ v' w', OwnOr w' B v' (l ++ [x]) → w.grownBy w' v.ownBlock → wpList P ops Q rest (a.put o.dst v') w') : wpList P ops Q (o :: rest) a w := by
  refine wpList_plain hgd fun K hK => ?_
  exact wp_append_ord sv sx t ho i ht hi hz hsize hby hzs hs hown x hxe hnews hlen hbase fun v' w' h1 h2 => hK _ _ (h v' w' h1 h2)
end
end Go.Proofs.YtcgkonpepmoliaaGreatDoor
namespace Go.Proofs.YtcgkonpepmoliaaGreatDoor
set_option maxRecDepth 100000
open Go Go.RowKit
set_option linter.unusedVariables false

/-- What a reader has behind j orders: the orders, the rest, the fault, and the last error of an amount. -/
structure OSt where
  acc : List OrdV
  rest : List UInt8
  fault : Int
  bad : Int
def OSt.o (s : OSt) : OrdV := ⟨⟨(rB s.rest s.fault).1.toArray⟩, ⟨(rB (rB s.rest s.fault).2.1 (rB s.rest s.fault).2.2).1.toArray⟩,
  (fromU (rB (rB (rB s.rest s.fault).2.1 (rB s.rest s.fault).2.2).2.1 (rB (rB s.rest s.fault).2.1 (rB s.rest s.fault).2.2).2.2).1).1⟩
def OSt.third (s : OSt) : List UInt8 × List UInt8 × Int := rB (rB (rB s.rest s.fault).2.1 (rB s.rest s.fault).2.2).2.1 (rB (rB s.rest s.fault).2.1 (rB s.rest s.fault).2.2).2.2
def OSt.next (s : OSt) : OSt := ⟨s.acc ++ [s.o], s.third.2.1, s.third.2.2, if (fromU s.third.1).2 = 0 then s.bad else (fromU s.third.1).2⟩
def OSt.at (s : OSt) : Nat → OSt
  | 0 => s
  | j + 1 => (s.at j).next
theorem OSt.at_acc (s : OSt) (j : Nat) : (s.at j).acc.length = s.acc.length + j := by
  induction j with
  | zero => rfl
  | succ j ih => simp [OSt.at, OSt.next, ih]; omega
theorem OSt.next_bad {s : OSt} (h : s.next.bad = 0) : s.bad = 0 ∧ (fromU s.third.1).2 = 0 := by
  unfold OSt.next at h
  dsimp only at h
  split at h
  · next e => exact ⟨h, e⟩
  · next e => exact absurd h e
theorem OSt.bad_stays {s : OSt} {j : Nat} (h : (s.at j).bad ≠ 0) : ∀ k, (s.at (j + k)).bad ≠ 0 := by
  intro k
  induction k with
  | zero => exact h
  | succ k ih => exact fun e => ih (OSt.next_bad (s := s.at (j + k)) e).1
/-- what a whole order took is what its form is -/
theorem OSt.next_ok {s : OSt} (hb : s.next.bad = 0) (hf : s.next.fault = 0) : s.fault = 0 ∧ s.rest = orB s.o ++ s.next.rest := by
  have h2 := (OSt.next_bad hb).2
  have hf' : s.third.2.2 = 0 := hf
  unfold OSt.third at hf' h2
  obtain ⟨e2, l3⟩ := rB_ok hf'
  obtain ⟨e1, l2⟩ := rB_ok e2
  obtain ⟨e0, l1⟩ := rB_ok e1
  refine ⟨e0, ?_⟩
  have hu : be (fromU s.third.1).1.nat 32 = s.third.1 := by
    rcases fromU_cases s.third.1 with h | h
    · exact h.2
    · unfold OSt.third at h; rw [h2] at h; exact absurd h (by decide)
  rw [l1, l2, l3]
  unfold orB OSt.o OSt.next
  dsimp only
  unfold OSt.third at hu ⊢
  rw [hu]
  simp [strBytes]
theorem OSt.all_ok {s : OSt} (j : Nat) (hb : (s.at j).bad = 0) (hf : (s.at j).fault = 0) (ha : s.acc = []) :
    s.fault = 0 ∧ s.rest = (s.at j).acc.flatMap orB ++ (s.at j).rest := by
  induction j with
  | zero => exact ⟨hf, by simp [OSt.at, ha]⟩
  | succ j ih =>
    have h1 := OSt.next_bad (s := s.at j) hb
    obtain ⟨h2, h3⟩ := OSt.next_ok (s := s.at j) hb hf
    obtain ⟨h4, h5⟩ := ih h1.1 h2
    refine ⟨h4, ?_⟩
    rw [h5, h3]
    simp [OSt.at, OSt.next]
/-- a reader's orders: the count, then as many -/
def ordsR (b : List UInt8) : OSt := (OSt.mk [] (rC 8 b 0).2.1 (rC 8 b 0).2.2 0).at (rC 8 b 0).1.toNat
theorem rC_back {most : Int} {l : List UInt8} (h : (rC most l 0).2.2 = 0) : l = be (rC most l 0).1.toNat 8 ++ (rC most l 0).2.1 := by
  unfold rC at h ⊢
  rw [if_neg (by simp)] at h ⊢
  split at h
  · exact absurd h (fun e => by simp at e)
  · next h1 =>
    split at h
    · exact absurd h (fun e => by simp at e)
    · next h2 =>
      rw [if_neg h1, if_neg h2]
      dsimp only
      have h8 := be_beVal (l.take 8)
      rw [show (l.take 8).length = 8 by simp; omega] at h8
      rw [Int.toNat_natCast, h8, List.take_append_drop]
theorem orders_back {b : List UInt8} (hb : (ordsR b).bad = 0) (he : rEnd (ordsR b).rest (ordsR b).fault = 0) : b = ordsB (ordsR b).acc (ordsR b).acc.length := by
  have hf : (ordsR b).fault = 0 := by
    unfold rEnd at he
    split at he
    · next h => exact absurd he h
    · next h => omega
  have hr : (ordsR b).rest = [] := by
    unfold rEnd at he
    rw [if_neg (by simp [hf])] at he
    split at he
    · exact absurd he (by decide)
    · next h => exact List.eq_nil_of_length_eq_zero (by omega)
  have hl : (ordsR b).acc.length = (rC 8 b 0).1.toNat := by
    unfold ordsR
    rw [OSt.at_acc]
    simp
  obtain ⟨h1, h2⟩ := OSt.all_ok (s := OSt.mk [] (rC 8 b 0).2.1 (rC 8 b 0).2.2 0) (rC 8 b 0).1.toNat hb hf rfl
  have h3 := rC_back (most := 8) (l := b) h1
  dsimp only at h2
  change (rC 8 b 0).2.1 = (ordsR b).acc.flatMap orB ++ (ordsR b).rest at h2
  rw [hr, List.append_nil] at h2
  unfold ordsB
  rw [hl, List.take_of_length_le (by omega), ← h2]
  exact h3
end Go.Proofs.YtcgkonpepmoliaaGreatDoor
namespace Go.Proofs.YtcgkonpepmoliaaGreatDoor
set_option maxRecDepth 100000
open Go Go.RowKit
set_option linter.unusedVariables false

theorem rC_range (l : List UInt8) : 0 ≤ (rC 8 l 0).1 ∧ (rC 8 l 0).1 ≤ 8 := by
  unfold rC
  rw [if_neg (by simp)]
  split
  · exact ⟨by simp, by simp⟩
  · split
    · exact ⟨by simp, by simp⟩
    · next h => dsimp only; omega
structure QZ (w : World) (g gb : Nat) (lv : Value) (acc : List OrdV) (cd : Array Value) (l : List UInt8) (f : Int) (W : World) : Prop where
  below : Below w.heap.size w W
  loc : W.heap[gb]? = some (.cells cd 37 (0, 0))
  rd : Rdr W w.heap.size g l f
  own : OwnOr W (g + 1) lv acc
  o1 : g < gb
  o2 : ∀ k, lv.ownBlock = some k → k < gb
section
variable {w W W' : World} {g gb : Nat} {lv : Value} {acc : List OrdV} {cd : Array Value} {l l' : List UInt8} {f f' : Int}
theorem QZ.call (h : QZ w g gb lv acc cd l f W) (hg : W.grownBy W' (some g)) (hr : Rdr W' w.heap.size g l' f') : QZ w g gb lv acc cd l' f' W' :=
  ⟨h.below.grown hg h.below.size (fun k e => by injection e with e; have := h.rd.from_; omega), (hg.block _ (blk_lt h.loc) (fun e => by injection e with e; have := h.o1; omega)).trans h.loc, hr,
    h.own.grown hg (by
      by_cases e : lv.ownBlock = none
      · exact .inl e
      · exact .inr fun e2 => by have := (h.own.lt _ e2).1; omega), h.o1, h.o2⟩
theorem QZ.up (h : QZ w g gb lv acc cd l f W) (hb : Below W.heap.size W W') : QZ w g gb lv acc cd l f W' :=
  ⟨below_chain h.below h.below.size hb, (hb.block _ (blk_lt h.loc)).trans h.loc, h.rd.below hb, h.own.below hb, h.o1, h.o2⟩
theorem QZ.set (h : QZ w g gb lv acc cd l f W) (i : Nat) (u : Value) : QZ w g gb lv acc (cd.setIfInBounds i u) l f (W.setCell ⟨gb, i, none⟩ u) :=
  ⟨h.below.setCell (p := ⟨gb, i, none⟩) (by have := h.o1; have := h.rd.from_; show w.heap.size ≤ gb; omega) u, blk_set h.loc i u, h.rd.grown (grown_setR W gb i u) (Or.inr h.o1),
    h.own.grown (grown_setR W gb i u) (by
      by_cases e : lv.ownBlock = none
      · exact .inl e
      · exact .inr fun e2 => by have := h.o2 _ e2; omega), h.o1, h.o2⟩
end
set_option maxHeartbeats 8000000 in
theorem icparse_any (w : World) (v : Value) (b : List UInt8) (hr : Rd w w.heap.size v b) (hl : b.length ≤ 140737488355320) :
    Calls Tryz.prog 43 #[v] w fun e w' => Below w.heap.size w w' ∧
      ((ordsR b).bad = 0 ∧ rEnd (ordsR b).rest (ordsR b).fault = 0 ∧ (∃ v', e = .returned (.tuple #[v', .int .i64 0]) ∧ OwnOr w' w.heap.size v' (ordsR b).acc) ∨
       ¬ ((ordsR b).bad = 0 ∧ rEnd (ordsR b).rest (ordsR b).fault = 0) ∧ e = .returned (.tuple #[.slice none 0 0, .int .i64 140])) := by
  obtain ⟨i0, hi, hz, hsz, hby⟩ := info_parts Tryz.infoOrd
  have HO := Lib.hid (open_rd v b w hr hl)
  obtain ⟨A0, c0, rfl⟩ := hr.form
  clear hr hl
  obtain ⟨q1, q2⟩ := rC_range b
  obtain ⟨N, hN⟩ : ∃ N : Nat, (rC 8 b 0).1 = (N : Int) := ⟨_, (Int.toNat_of_nonneg q1).symm⟩
  have hN8 : N ≤ 8 := by omega
  obtain ⟨S, hS⟩ : ∃ S, S = OSt.mk [] (rC 8 b 0).2.1 (rC 8 b 0).2.2 0 := ⟨_, rfl⟩
  have hR : ordsR b = S.at N := by unfold ordsR; rw [hN, hS]; rfl
  rw [hR]
  have HN := Lib.hid hN
  have HS := Lib.hid hS
  have HL := Lib.hid (show ∀ j, (S.at j).acc.length = j from fun j => by rw [OSt.at_acc, hS]; simp)
  have HST := Lib.hid (fun j k (h : (S.at j).bad ≠ 0) => OSt.bad_stays (s := S) (j := j) h k)
  clear hN hS hR q1 q2
  go_enter Tryz.func43, Tryz.ntmps43
  go_wp2_with fail
  refine HO.out.mono ?_
  rintro e w1 ⟨g, rfl, hr1, hb1⟩
  have HC := Lib.hid (rdC_any hr1 8 (by decide) (by decide))
  have hgl := hr1.lt
  rw [HN.out] at HC
  clear HO
  go_wp2_with fail
  refine HC.out.mono ?_
  rintro e w2 ⟨rfl, hr2, hg2⟩
  have hb2 : Below w.heap.size w w2 := hb1.grown hg2 hb1.size (fun k e => by injection e with e; have := hr2.from_; omega)
  have h20 : Rdr w2 w.heap.size g (S.at 0).rest (S.at 0).fault := by rw [HS.out]; exact hr2
  have h2a : (S.at 0).acc = [] := by rw [HS.out]; rfl
  have h2b : (S.at 0).bad = 0 := by rw [HS.out]; rfl
  clear HC hr1 hb1 hr2 hg2 hgl
  go_wp2_with fail
  go_loopw [5, 13] (fun lv i W => ∃ j : Nat, j ≤ N ∧ i = .int .i64 (j : Int) ∧ OwnOr W (g + 1) lv (S.at j).acc ∧ Rdr W w.heap.size g (S.at j).rest (S.at j).fault ∧ (S.at j).bad = 0 ∧ Below w.heap.size w W)
    (fun _ i _ => N - (intOf i).toNat)
  case atStart => exact ⟨0, by omega, rfl, by rw [h2a]; exact OwnOr.nil _ _, h20, h2b, hb2⟩
  case round =>
    rename World => W
    obtain ⟨j, hj, rfl, ho, hrd, hbad, hb⟩ := hrel
    clear h20 h2a h2b hb2
    by_cases hlt : j < N
    · have i1 : (0 : Int) ≤ (j : Int) := by omega
      have i2 : (j : Int) < (N : Int) := by omega
      have hlen := HL.out j
      have hnx : S.at (j + 1) = ⟨(S.at j).acc ++ [⟨⟨(rB (S.at j).rest (S.at j).fault).1.toArray⟩, ⟨(rB (rB (S.at j).rest (S.at j).fault).2.1 (rB (S.at j).rest (S.at j).fault).2.2).1.toArray⟩,
        (fromU (rB (rB (rB (S.at j).rest (S.at j).fault).2.1 (rB (S.at j).rest (S.at j).fault).2.2).2.1 (rB (rB (S.at j).rest (S.at j).fault).2.1 (rB (S.at j).rest (S.at j).fault).2.2).2.2).1).1⟩],
        (rB (rB (rB (S.at j).rest (S.at j).fault).2.1 (rB (S.at j).rest (S.at j).fault).2.2).2.1 (rB (rB (S.at j).rest (S.at j).fault).2.1 (rB (S.at j).rest (S.at j).fault).2.2).2.2).2.1,
        (rB (rB (rB (S.at j).rest (S.at j).fault).2.1 (rB (S.at j).rest (S.at j).fault).2.2).2.1 (rB (rB (S.at j).rest (S.at j).fault).2.1 (rB (S.at j).rest (S.at j).fault).2.2).2.2).2.2,
        if (fromU (rB (rB (rB (S.at j).rest (S.at j).fault).2.1 (rB (S.at j).rest (S.at j).fault).2.2).2.1 (rB (rB (S.at j).rest (S.at j).fault).2.1 (rB (S.at j).rest (S.at j).fault).2.2).2.2).1).2 = 0 then (S.at j).bad
          else (fromU (rB (rB (rB (S.at j).rest (S.at j).fault).2.1 (rB (S.at j).rest (S.at j).fault).2.2).2.1 (rB (rB (S.at j).rest (S.at j).fault).2.1 (rB (S.at j).rest (S.at j).fault).2.2).2.2).1).2⟩ := rfl
      rw [hbad] at hnx
      have HNX := Lib.hid hnx
      clear hnx hbad
      generalize (S.at j).acc = acc at *
      generalize (S.at j).rest = rest at *
      generalize (S.at j).fault = fault at *
      obtain ⟨Al, cl, rfl⟩ := ho.form
      obtain ⟨gb, hgb⟩ : ∃ gb, gb = W.heap.size := ⟨_, rfl⟩
      have hgl := hrd.lt
      have ha : Below W.heap.size W (W.alloc (.cells #[.string ⟨#[]⟩, .string ⟨#[]⟩, .int .u64 0, .int .u64 0, .int .u64 0, .int .u64 0] 37)) := (Below.refl _ _).alloc (Nat.le_refl _) _
      have P0 : QZ w g gb (.slice Al acc.length cl) acc #[.string ⟨#[]⟩, .string ⟨#[]⟩, .int .u64 0, .int .u64 0, .int .u64 0, .int .u64 0] rest fault (W.alloc (.cells #[.string ⟨#[]⟩, .string ⟨#[]⟩, .int .u64 0, .int .u64 0, .int .u64 0, .int .u64 0] 37)) :=
        ⟨below_chain hb hb.size ha, by rw [hgb]; exact heap_alloc_new W _, hrd.below ha, ho.below ha, by omega, fun k e => by have := (ho.lt k e).2; omega⟩
      have HLN := Lib.hid hlen
      clear hb hrd ho ha hlen hgl
      obtain ⟨na, hna⟩ : ∃ na, na = acc.length := ⟨_, rfl⟩
      rw [← hna] at P0 HLN ⊢
      have HAN := Lib.hid hna
      clear hna
      go_wp2_with fail
      rw [← hgb]
      generalize W.alloc (.cells #[.string ⟨#[]⟩, .string ⟨#[]⟩, .int .u64 0, .int .u64 0, .int .u64 0, .int .u64 0] 37) = W0 at *
      have P1 := P0
      clear P0 hgb
      refine (rdT_any P1.rd).mono ?_
      rintro e wa1 ⟨rfl, hr, hg⟩
      replace P1 := P1.call hg hr
      clear hr hg
      generalize rB rest fault = Q at *
      obtain ⟨d1, l1, f1⟩ := Q
      dsimp only at P1 HNX ⊢
      have z0 := blk_cell P1.loc 0
      have y0 := blk_free P1.loc 0
      have P2 := P1.set 0 (.string ⟨d1.toArray⟩)
      clear P1
      go_wp2_with fail
      generalize wa1.setCell ⟨gb, 0, none⟩ (.string ⟨d1.toArray⟩) = wb1 at *
      clear z0 y0
      refine (rdT_any P2.rd).mono ?_
      rintro e wa2 ⟨rfl, hr, hg⟩
      replace P2 := P2.call hg hr
      clear hr hg
      generalize rB l1 f1 = Q at *
      obtain ⟨d2, l2, f2⟩ := Q
      dsimp only at P2 HNX ⊢
      have z0 := blk_cell P2.loc 1
      have y0 := blk_free P2.loc 1
      have P3 := P2.set 1 (.string ⟨d2.toArray⟩)
      clear P2
      go_wp2_with fail
      generalize wa2.setCell ⟨gb, 1, none⟩ (.string ⟨d2.toArray⟩) = wb2 at *
      clear z0 y0
      refine (rdB_any P3.rd).mono ?_
      rintro e wa3 ⟨vB, rfl, hoB, hr, hg⟩
      replace P3 := P3.call hg hr
      clear hr hg
      generalize rB l2 f2 = Q at *
      obtain ⟨m, l3, f3⟩ := Q
      dsimp only at P3 HNX hoB ⊢
      have HF := Lib.hid (from_any vB m _ hoB.rd)
      obtain ⟨AB, cB, rfl⟩ := hoB.form
      clear hoB
      go_wp2_with fail
      refine HF.out.mono ?_
      rintro e w5 ⟨rfl, hb5⟩
      replace P3 := P3.up hb5
      clear hb5 HF
      generalize fromU m = Q at *
      obtain ⟨x, fe⟩ := Q
      dsimp only at P3 HNX ⊢
      unfold U4.val U4.cells
      have hau : Below w5.heap.size w5 (w5.alloc (.cells #[.int .u64 (x.a : Int), .int .u64 (x.b : Int), .int .u64 (x.c : Int), .int .u64 (x.d : Int)] 35)) := (Below.refl _ _).alloc (Nat.le_refl _) _
      have hu5 := heap_alloc_new w5 (.cells #[.int .u64 (x.a : Int), .int .u64 (x.b : Int), .int .u64 (x.c : Int), .int .u64 (x.d : Int)] 35)
      have P5 := P3.up hau
      have u0 := blk_cell hu5 0
      have u1 := blk_cell hu5 1
      have u2 := blk_cell hu5 2
      have u3 := blk_cell hu5 3
      by_cases hfe : fe = 0
      · subst hfe
        rw [if_pos rfl] at HNX
        have z2 := blk_cell P5.loc 2
        have z3 := blk_cell P5.loc 3
        have z4 := blk_cell P5.loc 4
        have z5 := blk_cell P5.loc 5
        have y2 := blk_free P5.loc 2
        have y3 := blk_free P5.loc 3
        have y4 := blk_free P5.loc 4
        have y5 := blk_free P5.loc 5
        have P6 := (((P5.set 2 (.int .u64 (x.a : Int))).set 3 (.int .u64 (x.b : Int))).set 4 (.int .u64 (x.c : Int))).set 5 (.int .u64 (x.d : Int))
        have v0 := blk_cell P6.loc 0
        have v1 := blk_cell P6.loc 1
        have v2 := blk_cell P6.loc 2
        have v3 := blk_cell P6.loc 3
        have v4 := blk_cell P6.loc 4
        have v5 := blk_cell P6.loc 5
        have hsz6 : (World.heap (World.setCell (World.setCell (World.setCell (World.setCell (w5.alloc (.cells #[.int .u64 (x.a : Int), .int .u64 (x.b : Int), .int .u64 (x.c : Int), .int .u64 (x.d : Int)] 35)) ⟨gb, 2, none⟩ (.int .u64 (x.a : Int))) ⟨gb, 3, none⟩ (.int .u64 (x.b : Int))) ⟨gb, 4, none⟩ (.int .u64 (x.c : Int))) ⟨gb, 5, none⟩ (.int .u64 (x.d : Int)))).size = w5.heap.size + 1 := by simp
        have hk7 := heap_alloc_new (World.setCell (World.setCell (World.setCell (World.setCell (w5.alloc (.cells #[.int .u64 (x.a : Int), .int .u64 (x.b : Int), .int .u64 (x.c : Int), .int .u64 (x.d : Int)] 35)) ⟨gb, 2, none⟩ (.int .u64 (x.a : Int))) ⟨gb, 3, none⟩ (.int .u64 (x.b : Int))) ⟨gb, 4, none⟩ (.int .u64 (x.c : Int))) ⟨gb, 5, none⟩ (.int .u64 (x.d : Int))) (.cells #[.string ⟨d1.toArray⟩, .string ⟨d2.toArray⟩, .int .u64 (x.a : Int), .int .u64 (x.b : Int), .int .u64 (x.c : Int), .int .u64 (x.d : Int)] 37)
        rw [hsz6] at hk7
        have ha7 : Below (World.heap (World.setCell (World.setCell (World.setCell (World.setCell (w5.alloc (.cells #[.int .u64 (x.a : Int), .int .u64 (x.b : Int), .int .u64 (x.c : Int), .int .u64 (x.d : Int)] 35)) ⟨gb, 2, none⟩ (.int .u64 (x.a : Int))) ⟨gb, 3, none⟩ (.int .u64 (x.b : Int))) ⟨gb, 4, none⟩ (.int .u64 (x.c : Int))) ⟨gb, 5, none⟩ (.int .u64 (x.d : Int)))).size (World.setCell (World.setCell (World.setCell (World.setCell (w5.alloc (.cells #[.int .u64 (x.a : Int), .int .u64 (x.b : Int), .int .u64 (x.c : Int), .int .u64 (x.d : Int)] 35)) ⟨gb, 2, none⟩ (.int .u64 (x.a : Int))) ⟨gb, 3, none⟩ (.int .u64 (x.b : Int))) ⟨gb, 4, none⟩ (.int .u64 (x.c : Int))) ⟨gb, 5, none⟩ (.int .u64 (x.d : Int))) (World.alloc (World.setCell (World.setCell (World.setCell (World.setCell (w5.alloc (.cells #[.int .u64 (x.a : Int), .int .u64 (x.b : Int), .int .u64 (x.c : Int), .int .u64 (x.d : Int)] 35)) ⟨gb, 2, none⟩ (.int .u64 (x.a : Int))) ⟨gb, 3, none⟩ (.int .u64 (x.b : Int))) ⟨gb, 4, none⟩ (.int .u64 (x.c : Int))) ⟨gb, 5, none⟩ (.int .u64 (x.d : Int))) (.cells #[.string ⟨d1.toArray⟩, .string ⟨d2.toArray⟩, .int .u64 (x.a : Int), .int .u64 (x.b : Int), .int .u64 (x.c : Int), .int .u64 (x.d : Int)] 37)) := (Below.refl _ _).alloc (Nat.le_refl _) _
        have P7 := P6.up ha7
        have HNW : Hid (∀ (j : Nat) (u : Value), (OrdV.mk ⟨d1.toArray⟩ ⟨d2.toArray⟩ x).cl[j]? = some u → (World.alloc (World.setCell (World.setCell (World.setCell (World.setCell (w5.alloc (.cells #[.int .u64 (x.a : Int), .int .u64 (x.b : Int), .int .u64 (x.c : Int), .int .u64 (x.d : Int)] 35)) ⟨gb, 2, none⟩ (.int .u64 (x.a : Int))) ⟨gb, 3, none⟩ (.int .u64 (x.b : Int))) ⟨gb, 4, none⟩ (.int .u64 (x.c : Int))) ⟨gb, 5, none⟩ (.int .u64 (x.d : Int))) (.cells #[.string ⟨d1.toArray⟩, .string ⟨d2.toArray⟩, .int .u64 (x.a : Int), .int .u64 (x.b : Int), .int .u64 (x.c : Int), .int .u64 (x.d : Int)] 37)).cell? ((⟨w5.heap.size + 1, 0, none⟩ : Addr).add j) = some u) := Lib.hid fun j u hu => by
          have h := blk_cell hk7 j
          have e : (⟨w5.heap.size + 1, 0, none⟩ : Addr).add j = ⟨w5.heap.size + 1, j, none⟩ := by unfold Addr.add; split <;> simp_all
          rw [e, h, ← hu]
          simp [OrdV.cl]
        have HP7 := Lib.hid P7
        have hs7 := P7.own.lt
        have hsb : g + 1 ≤ (World.heap (World.alloc (World.setCell (World.setCell (World.setCell (World.setCell (w5.alloc (.cells #[.int .u64 (x.a : Int), .int .u64 (x.b : Int), .int .u64 (x.c : Int), .int .u64 (x.d : Int)] 35)) ⟨gb, 2, none⟩ (.int .u64 (x.a : Int))) ⟨gb, 3, none⟩ (.int .u64 (x.b : Int))) ⟨gb, 4, none⟩ (.int .u64 (x.c : Int))) ⟨gb, 5, none⟩ (.int .u64 (x.d : Int))) (.cells #[.string ⟨d1.toArray⟩, .string ⟨d2.toArray⟩, .int .u64 (x.a : Int), .int .u64 (x.b : Int), .int .u64 (x.c : Int), .int .u64 (x.d : Int)] 37))).size := by have := P7.rd.lt; omega
        have HSB := Lib.hid hsb
        have hln : na ≤ 1000 := by have := HLN.out; omega
        clear P3 hau hk7 ha7 P7 hs7 hsb hsz6
        go_wp2_with (at_builtin; refine wpList_append_ord rfl (.tmp 31) (.tmp 33) 23 rfl i0 Tryz.underlying23 hi hz hsz hby rfl rfl HP7.out.own ⟨⟨d1.toArray⟩, ⟨d2.toArray⟩, x⟩ rfl HNW.out (by have := HAN.out; omega) HSB.out ?_; intro v7 w7 ho7 hg7)
        have hrd7 : Rdr w7 w.heap.size g l3 f3 := HP7.out.rd.keep fun k _ hk => hg7.block k (by have := HP7.out.rd.lt; omega) (fun e => by have := (HP7.out.own.lt k e.symm).1; omega)
        have hb7 := HP7.out.below.grown hg7 HP7.out.below.size (fun k hk => by have := (HP7.out.own.lt k hk).1; have := HP7.out.rd.from_; omega)
        exact ⟨⟨j + 1, by omega, by go_num, by rw [HNX.out]; exact ho7, by rw [HNX.out]; exact hrd7, by rw [HNX.out], hb7⟩, by simp [intOf]; omega⟩
      · have hne : (fe != 0) = true := by simpa using hfe
        rw [if_neg hfe] at HNX
        have hbd : (S.at N).bad ≠ 0 := by
          have h1 : (S.at (j + 1)).bad ≠ 0 := by rw [HNX.out]; exact hfe
          have h2 := HST.out (j + 1) (N - (j + 1)) h1
          rwa [show j + 1 + (N - (j + 1)) = N by omega] at h2
        have HBD := Lib.hid hbd
        have HP := Lib.hid P5.below
        clear hbd P5 P3 hau hu5
        go_wp2_with fail
        go_ret2
        exact ⟨HP.out, .inr ⟨fun h => HBD.out h.1, rfl⟩⟩
    · have hjn : j = N := by omega
      have i2 : ¬ (j : Int) < (N : Int) := by omega
      subst hjn
      have hO := Lib.hid ho
      obtain ⟨Al, cl, rfl⟩ := ho.form
      have HE := Lib.hid (rdEnd_any hrd)
      have HBA := Lib.hid hbad
      have hge : w.heap.size ≤ g + 1 := by have := hrd.from_; omega
      have HLN := Lib.hid (HL.out j)
      clear ho hrd hbad
      generalize (S.at j).acc.length = na at *
      obtain ⟨E, hEE⟩ : ∃ E, E = rEnd (S.at j).rest (S.at j).fault := ⟨_, rfl⟩
      rw [← hEE] at HE
      have HEE := Lib.hid hEE
      clear hEE
      go_wp2_with fail
      refine HE.out.mono ?_
      rintro e w3 ⟨rfl, rfl⟩
      by_cases hE : E = 0
      · subst hE
        go_wp2_with fail
        go_ret2
        exact ⟨hb, .inl ⟨HBA.out, HEE.out.symm, _, rfl, hO.out.more hge⟩⟩
      · have hne : (E != 0) = true := by simpa using hE
        go_wp2_with fail
        go_ret2
        exact ⟨hb, .inr ⟨fun h => hE (HEE.out.trans h.2), rfl⟩⟩
end Go.Proofs.YtcgkonpepmoliaaGreatDoor
namespace Go.Proofs.YtcgkonpepmoliaaGreatDoor
set_option maxRecDepth 100000
open Go Go.RowKit
set_option linter.unusedVariables false

def OrdV.fit (o : OrdV) : Prop := o.x.ok ∧ o.t.size ≤ maxLen ∧ o.d.size ≤ maxLen
theorem OSt.at_fit {s : OSt} (h : ∀ o ∈ s.acc, o.fit) (j : Nat) : ∀ o ∈ (s.at j).acc, o.fit := by
  induction j with
  | zero => exact h
  | succ j ih =>
    intro o ho
    have e : (s.at (j + 1)).acc = (s.at j).acc ++ [(s.at j).o] := rfl
    rw [e] at ho
    rcases List.mem_append.1 ho with ho | ho
    · exact ih o ho
    · rw [List.mem_singleton.1 ho]
      have b1 := rB_le (s.at j).rest (s.at j).fault
      have b2 := rB_le (rB (s.at j).rest (s.at j).fault).2.1 (rB (s.at j).rest (s.at j).fault).2.2
      refine ⟨fromU_ok _, ?_, ?_⟩
      · show (rB (s.at j).rest (s.at j).fault).1.toArray.size ≤ maxLen
        unfold maxLen
        simp
        omega
      · show (rB (rB (s.at j).rest (s.at j).fault).2.1 (rB (s.at j).rest (s.at j).fault).2.2).1.toArray.size ≤ maxLen
        unfold maxLen
        simp
        omega
theorem ordsR_fit (b : List UInt8) : ∀ o ∈ (ordsR b).acc, o.fit := by
  unfold ordsR
  exact OSt.at_fit (fun o h => by cases h) _
theorem ordsR_len (b : List UInt8) : (ordsR b).acc.length ≤ 8 := by
  have h := rC_range b
  unfold ordsR
  rw [OSt.at_acc]
  simp
  omega
theorem OwnOr.ords {w : World} {B : Nat} {v : Value} {l : List OrdV} (h : OwnOr w B v l) : OrdsAt w v l := by
  obtain ⟨A, c, rfl⟩ := h.form
  refine ⟨A, c, rfl, fun h0 => ?_⟩
  obtain ⟨g, rfl, hg, hc⟩ := h.at_ 0 h0
  refine ⟨g, 0, rfl, hg, fun j hj i u hi hu => ?_⟩
  obtain ⟨g', e, _, hc'⟩ := h.at_ j hj
  injection e with e
  injection e with e _ _
  subst e
  have := hc' i u (by simpa [OrdV.cells, OrdV.cl] using hu)
  simpa using this
theorem OrdsAt.up {w w' : World} {v : Value} {l : List OrdV} (h : OrdsAt w v l) (hb : Below w.heap.size w w') : OrdsAt w' v l := by
  obtain ⟨A, c, rfl, hc⟩ := h
  refine ⟨A, c, rfl, fun h0 => ?_⟩
  obtain ⟨b, o, rfl, hb1, hcell⟩ := hc h0
  exact ⟨b, o, rfl, Nat.lt_of_lt_of_le hb1 hb.size, fun j hj i u hi hu => (hb.cell (p := ⟨b, o + j * 6 + i, none⟩) hb1).trans (hcell j hj i u hi hu)⟩
end Go.Proofs.YtcgkonpepmoliaaGreatDoor
