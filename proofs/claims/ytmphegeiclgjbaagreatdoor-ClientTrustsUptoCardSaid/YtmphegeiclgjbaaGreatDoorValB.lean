
/- The walks of package vals: Bytes, Hash. -/
import Derived.Test.YtmphegeiclgjbaaGreatDoorValA0
import Derived.Test.YtmphegeiclgjbaaGreatDoorShaM0
import Derived.LoopTactic
import Derived.Deep.RegionHeldLaw
namespace Go.Proofs.YtmphegeiclgjbaaGreatDoor
set_option maxRecDepth 100000
open Go Go.RowKit

def formV (x : VD) : List UInt8 := be ((strBytes x.name).take 65535).length 4 ++ (strBytes x.name).take 65535 ++ be x.power 8
def formVs (l : List VD) : List UInt8 := l.flatMap formV
def bytesV (l : List VD) : List UInt8 := be l.length 8 ++ formVs l
theorem formV_length (x : VD) : (formV x).length ≤ 65547 := by
  simp only [formV, List.length_append, be_length, List.length_take]; omega
theorem formVs_length (l : List VD) : (formVs l).length ≤ l.length * 65547 := by
  induction l with
  | nil => simp [formVs]
  | cons x l ih => have := formV_length x; simp only [formVs, List.flatMap_cons, List.length_append, List.length_cons] at *; omega
theorem formVs_succ (l : List VD) (t : Nat) (h : t < l.length) : formVs (l.take (t + 1)) = formVs (l.take t) ++ formV l[t] := by
  unfold formVs
  rw [List.take_succ_eq_append_getElem h, List.flatMap_append]
  simp

/-- what a round of Bytes carries through its region -/
def BoxS (g B : Nat) (w0 : World) (x : VD) (v : Value) (L : List UInt8) (w' : World) : Prop := ValAt w' g 0 x ∧ g < w'.heap.size ∧ Own w' B v L ∧ Below B w0 w' ∧ B ≤ w'.heap.size ∧ v.ownBlock ≠ some g
section
variable {g B : Nat} {w0 w' w'' : World} {x : VD} {v : Value} {L : List UInt8}
theorem BoxS.drew (h : BoxS g B w0 x v L w') : BoxS g B w0 x v L w'.drew := ⟨h.1, h.2.1, h.2.2.1.drewN 1, below_drewN' h.2.2.2.1 1, h.2.2.2.2⟩
theorem BoxS.below (h : BoxS g B w0 x v L w') (hb : Below w'.heap.size w' w'') : BoxS g B w0 x v L w'' :=
  ⟨⟨(hb.cell (p := ⟨g, 0, none⟩) h.2.1).trans h.1.1, (hb.cell (p := ⟨g, 0 + 1, none⟩) h.2.1).trans h.1.2⟩, Nat.lt_of_lt_of_le h.2.1 hb.size, h.2.2.1.below hb, below_chain h.2.2.2.1 h.2.2.2.2.1 hb, Nat.le_trans h.2.2.2.2.1 hb.size, h.2.2.2.2.2⟩
theorem BoxS.c (h : BoxS g B w0 x v L w') : w'.cell? ⟨g, 0, none⟩ = some (.string x.name) ∧ w'.cell? ⟨g, 1, none⟩ = some (.int .u64 (x.power : Int)) := ⟨h.1.1, h.1.2⟩
theorem BoxS.grown (h : BoxS g B w0 x v L w') (hg : w'.grownBy w'' v.ownBlock) : w''.cell? ⟨g, 0, none⟩ = some (.string x.name) ∧ w''.cell? ⟨g, 1, none⟩ = some (.int .u64 (x.power : Int)) := by
  have := hg.block g h.2.1 (Ne.symm h.2.2.2.2.2)
  exact ⟨(World.cell?_of_block (a := ⟨g, 0, none⟩) this).trans h.1.1, (World.cell?_of_block (a := ⟨g, 0 + 1, none⟩) this).trans h.1.2⟩
end

set_option maxHeartbeats 4000000 in
set_option maxRecDepth 100000 in
theorem bytesV_any (v : Value) (l : List VD) (w : World) (hv : ValsAt w w.heap.size v l) (hl : l.length ≤ 1048576) :
    Calls Tryz.prog 60 #[v] w fun e w' => ∃ v', e = .returned v' ∧ Own w' w.heap.size v' (bytesV l) ∧ Below w.heap.size w w' := by
  obtain ⟨i0, hi, hz, hsz, hby⟩ := info_parts Tryz.infoByte
  obtain ⟨A, c, rfl, hc, hcm, hf, hp⟩ := hv
  unfold maxLen at hcm
  have HP := Lib.hid hp
  have HF := Lib.hid hf
  clear hp hf
  unfold bytesV
  obtain ⟨n, hn⟩ : ∃ n, n = l.length := ⟨_, rfl⟩
  have HN := Lib.hid hn
  rw [← hn] at hc hl ⊢
  clear hn
  have hbl := be_length n 8
  obtain ⟨W, hW⟩ : ∃ W, W = be n 8 := ⟨_, rfl⟩
  rw [← hW] at hbl ⊢
  have HW := Lib.hid hW
  clear hW
  go_enter Tryz.func60, Tryz.ntmps60
  go_wp2_with fail
  refine (N_any (.slice none 0 0) [] n w (Rd.nil _ _) (by omega) (by simp)).mono ?_
  rintro e w1 ⟨v1, rfl, ho1, hb1⟩
  replace ho1 : Own w1 w.heap.size v1 (be n 8) := ho1
  rw [← HW.out] at ho1
  go_wp2
  go_loopw [3, 12] (fun v3 i wr => ∃ k : Nat, k ≤ n ∧ i = .int .i64 (k : Int) ∧ Own wr w.heap.size v3 (W ++ formVs (l.take k)) ∧ Below w.heap.size w wr)
    (fun _ i _ => n - (intOf i).toNat)
  case atStart => exact ⟨0, Nat.zero_le _, rfl, by simpa [formVs] using ho1, hb1⟩
  case round =>
    clear ho1 hb1
    obtain ⟨k, hk, rfl, ho, hb⟩ := hrel
    have hfl := formVs_length (l.take k)
    rw [List.length_take] at hfl
    by_cases hlt : k < n
    · obtain ⟨b, o, rfl, hbl2, hcell⟩ := HP.out (by have := HN.out; omega)
      have hkl : k < l.length := by have := HN.out; omega
      have hat := hcell k hkl
      have c0 := (hb.cell (p := ⟨b, o + k * 2, none⟩) hbl2).trans hat.1
      have c1 := (hb.cell (p := ⟨b, o + k * 2 + 1, none⟩) hbl2).trans hat.2
      have hfit := HF.out _ (List.getElem_mem hkl)
      have HS := Lib.hid (formVs_succ l k hkl)
      have hsx := hfit.1
      have hpw := hfit.2
      have hll : (W ++ formVs (l.take k)).length ≤ 8 + k * 65547 := by rw [List.length_append, hbl]; omega
      clear hcell HP hat hfit hfl
      generalize l[k] = x at *
      obtain ⟨L, hL⟩ : ∃ L, L = W ++ formVs (l.take k) := ⟨_, rfl⟩
      rw [← hL] at ho hll
      have HL := Lib.hid hL
      clear hL
      have hT := Lib.hid (fun W : World => T_any (.slice none 0 0) x.name [] W (Rd.nil _ _) hsx (by simp))
      have i1 : (0 : Int) ≤ (k : Int) := by omega
      have i2 : (k : Int) < (n : Int) := by omega
      clear hsx
      go_wp2
      have hBx : BoxS wr.heap.size w.heap.size w x u3 L (wr.alloc (.cells #[.string x.name, .int .u64 (x.power : Int)] 151)) :=
        ⟨⟨blk_cell (heap_alloc_new wr _) 0, blk_cell (heap_alloc_new wr _) 1⟩, by simp, ho.alloc _, val_box hb x, by have := hb.size; simp; omega, fun e => Nat.lt_irrefl _ (ho.lt _ e).2⟩
      generalize wr.alloc (.cells #[.string x.name, .int .u64 (x.power : Int)] 151) = wb at *
      generalize wr.heap.size = g at *
      clear c0 c1 ho hb
      go_region_held_law (fun w' => w'.cell? ⟨g, 0, none⟩ = some (.string x.name) ∧ w'.cell? ⟨g, 1, none⟩ = some (.int .u64 (x.power : Int)))
        (first | exact hBx.drew.c | exact hB3.c | exact hB5.c | exact hB5.grown hg6)
        (first
          | (go_at_call 82; refine (hT.out _).mono ?_; rintro e w3 ⟨v3, rfl, ho3, hb3⟩; have hB3 := BoxS.below hBx.drew hb3)
          | (go_at_call 42; refine (N_any v3 _ x.power _ ho3.rd hpw (by simp only [List.length_append, be_length, List.length_take, List.length_nil]; omega)).mono ?_; rintro e w5 ⟨v5, rfl, ho5, hb5⟩; have hB5 := BoxS.below hB3 hb5)
          | (rw [if_pos (by rfl)]; refine wp_append_rd (.tmp 16) (.tmp 22) _ rfl i0 Tryz.underlying32 hi hz hsz hby rfl hB5.2.2.1 rfl ho5.rd (by simp only [List.length_append, be_length, List.length_take, List.length_nil]; omega) hB5.2.2.2.2.1 ?_; intro v6 w6 ho6 hg6 _))
      all_goals
        have hb6 : Below w.heap.size w w6 := Own.below_grown hB5.2.2.2.1 hB5.2.2.1 (Nat.le_refl _) hB5.2.2.2.2.1 hg6
        rw [show L ++ ([] ++ be ((strBytes x.name).take 65535).length 4 ++ (strBytes x.name).take 65535 ++ be x.power 8) = W ++ formVs (l.take (k + 1)) from by rw [HL.out, HS.out, List.append_assoc]; rfl] at ho6
        clear hg6 hB5 hB3 hBx ho5 ho3
        go_wp2
        go_roundw
        case rel => exact ⟨k + 1, by omega, by go_num, ho6, hb6⟩
        case measure => simp [intOf]; omega
    · have i2 : ¬ (k : Int) < (n : Int) := by omega
      have he : l.take k = l := List.take_of_length_le (by have := HN.out; omega)
      rw [he] at ho
      clear he
      go_wp2
      go_ret
      exact ⟨_, rfl, ho, hb⟩

theorem parts1 (w : World) (va : Value) (a : List UInt8) (t : TypeId) (ha : Rd w w.heap.size va a) :
    Parts (w.alloc (.cells #[va] t)) (w.alloc (.cells #[va] t)).heap.size (.slice (some ⟨w.heap.size, 0, none⟩) 1 1) [a] := by
  have hbw : Below w.heap.size w (w.alloc (.cells #[va] t)) := (Below.refl _ _).alloc (Nat.le_refl _) _
  have hg := heap_alloc_new w (.cells #[va] t)
  refine ⟨_, 1, rfl, fun _ => ⟨w.heap.size, 0, rfl, by simp, fun j hj => ?_⟩⟩
  rw [show (0 + j) = j by omega, blk_cell hg]
  rcases j with _ | j
  · exact ⟨va, rfl, ha.up (Nat.le_refl _) hbw⟩
  · exact absurd hj (by simp)

def valsWord : ByteArray := ⟨#[118, 97, 108, 115]⟩
set_option maxHeartbeats 1000000 in
theorem hashV_any (v : Value) (l : List VD) (w : World) (hv : ValsAt w w.heap.size v l) (hl : l.length ≤ 1048576) (fr : TypeId × Nat × Nat) (hk : w.heap[0]? = some (.cells kVals fr.1 fr.2)) :
    Calls Tryz.prog 18 #[v] w fun e w' => ∃ v', e = .returned v' ∧ Own w' w.heap.size v' (shaSum (formB (strBytes valsWord) ++ formBs [bytesV l])) ∧ Below w.heap.size w w' := by
  have hn0 := blk_lt hk
  obtain ⟨L, hL⟩ : ∃ L, L = bytesV l := ⟨_, rfl⟩
  have hB := bytesV_any v l w hv hl
  rw [← hL] at hB ⊢
  clear hL
  have HB := Lib.hid hB
  clear hB
  obtain ⟨A, c, rfl⟩ := hv.form
  go_enter Tryz.func18, Tryz.ntmps18
  go_wp2_with fail
  refine HB.out.mono ?_
  rintro e w1 ⟨v1, rfl, ho1, hb1⟩
  obtain ⟨A1, c1, rfl⟩ := ho1.form
  go_wp2_with fail
  have hp := parts1 w1 _ L 32 ho1.rd
  have hbx : Below w.heap.size w (w1.alloc (.cells #[.slice A1 L.length c1] 32)) := hb1.alloc hb1.size _
  generalize w1.alloc (.cells #[.slice A1 L.length c1] 32) = w2 at *
  refine (tagged_any valsWord _ [L] w2 hp (by unfold maxLen valsWord; decide) (by simp) fr ((hbx.block _ hn0).trans hk)).mono ?_
  rintro e w3 ⟨v3, rfl, ho3, hb3⟩
  go_wp2_with fail
  go_ret
  exact ⟨_, rfl, ho3.more hbx.size, below_chain hbx hbx.size hb3⟩
end Go.Proofs.YtmphegeiclgjbaaGreatDoor
