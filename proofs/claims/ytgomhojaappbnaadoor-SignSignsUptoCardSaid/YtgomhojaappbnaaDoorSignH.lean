/- The walk of package sign's Verify. -/
import Derived.Test.YtgomhojaappbnaaDoorSignG
namespace Go.Proofs.YtgomhojaappbnaaDoor
open Go Go.RowKit

/-- the hash of l levels above h, on the way from a key's leaf, out of the signature's pieces beside the way -/
def climbL (key : Nat) (sig : List UInt8) (h : List UInt8) : Nat → List UInt8
  | 0 => h
  | l + 1 => if key / 2 ^ l % 2 = 0 then nodeL (climbL key sig h l) (pieceL sig (18 + l)) else nodeL (pieceL sig (18 + l)) (climbL key sig h l)
def verLeaf (root : List UInt8) (key : Nat) (msg sig : List UInt8) : List UInt8 := leafOf key (rowL (fun c => walkL c ((digitsL root key msg).getD c 0) (15 - (digitsL root key msg).getD c 0) (pieceL sig c)) 18)
def verB (root : List UInt8) (key : Int) (msg sig : List UInt8) : Bool := decide (sig.length = 672 ∧ 0 ≤ key ∧ key < 8 ∧ root.length = 32) && sameB (climbL key.toNat sig (verLeaf root key.toNat msg sig) 3) root
theorem and1_64 (n : Nat) (h : n < 4611686018427387904) : bits .and .i64 (n : Int) 1 = ((n % 2 : Nat) : Int) := by
  have h1 : (BitVec.ofInt 64 (n : Int)).toNat = n := by
    rw [BitVec.ofInt_natCast, BitVec.toNat_ofNat]; exact Nat.mod_eq_of_lt (by omega)
  show IntKind.i64.wrap ((BitVec.ofInt 64 (n : Int) &&& BitVec.ofInt 64 1).toNat : Int) = _
  rw [BitVec.toNat_and, h1, show (BitVec.ofInt 64 1).toNat = 2 ^ 1 - 1 from rfl, Nat.and_two_pow_sub_one_eq_mod, IntKind.wrap_i64]
  omega
theorem bit_at (key l : Nat) (hk : key < 4611686018427387904) : bits .and .i64 ((key : Int) / 2 ^ l) 1 = ((key / 2 ^ l % 2 : Nat) : Int) := by
  have e : (key : Int) / 2 ^ l = ((key / 2 ^ l : Nat) : Int) := by push_cast; rfl
  rw [e, and1_64 _ (Nat.lt_of_le_of_lt (Nat.div_le_self _ _) hk)]
theorem getD_le (l : List Nat) (c : Nat) (h : ∀ d ∈ l, d ≤ 15) : l.getD c 0 ≤ 15 := by
  rw [List.getD_eq_getElem?_getD]
  rcases hc : l[c]? with _ | x
  · simp
  · exact h x (List.mem_of_getElem? hc)

set_option maxHeartbeats 4000000 in
theorem leafV_any (key : Nat) (p1 p2 : Value) (pl : Nat → Nat) (val : Nat → List UInt8) (w : World) (h1 : key ≤ 1000) (hpl : ∀ c, pl c ≤ 15) (fr : TypeId × Nat × Nat) (hk : w.heap[0]? = some (.cells kVals fr.1 fr.2))
    (hf : ∀ (c : Nat) (W : World), c < 18 → Below w.heap.size w W → Calls Tryd.prog 23 #[.int .i64 (c : Int), p1, p2] W fun e W' => ∃ v', e = .returned (.tuple #[.int .i64 (pl c : Int), v']) ∧ RdS W' w.heap.size v' (val c) ∧ Below W.heap.size W W') :
    Calls Tryd.prog 22 #[.int .i64 (key : Int), .func (.func 23) #[] #[p1, p2]] w fun e w' => ∃ v', e = .returned v' ∧ Own w' w.heap.size v' (leafOf key (rowL (fun c => walkL c (pl c) (15 - pl c) (val c)) 18)) ∧ Below w.heap.size w w' := by
  obtain ⟨i0, hi, hz, hsz, hby⟩ := info_parts Tryd.infoRow
  have hn0 := blk_lt hk
  have HK := Lib.hid hk
  have HF := Lib.hid hf
  have HP := Lib.hid hpl
  clear hk hf hpl
  have N1 := Lib.hid (fun W : World => number_any key W h1)
  go_enter Tryd.func22, Tryd.ntmps22
  go_wp2_with fail
  refine (N1.out _).mono ?_
  rintro e w1 ⟨v1, rfl, ho1, hb1⟩
  obtain ⟨A1, c1, rfl⟩ := ho1.form
  rw [be_length] at *
  have hr1 : RdS w1 w.heap.size (.slice A1 8 c1) (be key 8) := ho1.rdS
  have hO1 := (OwnR.one hr1).more hb1.size
  have hbx : Below w.heap.size w (w1.alloc (.cells #[.slice A1 8 c1] 22)) := hb1.alloc hb1.size _
  clear ho1 hr1
  go_wp2_with fail
  generalize w1.alloc (.cells #[.slice A1 8 c1] 22) = w2 at *
  go_loopw [5, 12] (fun pv i wr => ∃ k : Nat, k ≤ 18 ∧ i = .int .i64 (k : Int) ∧ OwnR wr w.heap.size w.heap.size pv (be key 8 :: rowL (fun c => walkL c (pl c) (15 - pl c) (val c)) k) ∧ Below w.heap.size w wr)
    (fun _ i _ => 18 - (intOf i).toNat)
  case atStart => exact ⟨0, Nat.zero_le _, rfl, hO1, hbx⟩
  case round =>
    clear hO1 hbx
    obtain ⟨k, hk18, rfl, ho, hb⟩ := hrel
    by_cases hlt : k < 18
    · have i1 : (k : Int) < 18 := by omega
      have hl1 : (be key 8 :: rowL (fun c => walkL c (pl c) (15 - pl c) (val c)) k).length ≤ 1000 := by rw [List.length_cons, rowL_length]; omega
      have hS : Hid (be key 8 :: rowL (fun c => walkL c (pl c) (15 - pl c) (val c)) (k + 1) = (be key 8 :: rowL (fun c => walkL c (pl c) (15 - pl c) (val c)) k) ++ [walkL k (pl k) (15 - pl k) (val k)]) := Lib.hid rfl
      generalize be key 8 :: rowL (fun c => walkL c (pl c) (15 - pl c) (val c)) k = L at *
      obtain ⟨Ap, cp, rfl⟩ := ho.form
      go_wp2_with fail
      refine (HF.out k wr hlt hb).mono ?_
      rintro e w3 ⟨v3, rfl, hr3, hb3⟩
      have q := HP.out k
      have hq3 := below_chain hb hb.size hb3
      go_wp2_with fail
      refine (walk_any v3 (val k) k (pl k) 15 w3 w.heap.size hr3 (by omega) (by omega) (by omega) fr ((hq3.block _ hn0).trans HK.out)).mono ?_
      rintro e w4 ⟨v4, rfl, hr4, hb4⟩
      have hq4 := below_chain hq3 hq3.size hb4
      have ho4 := (ho.up hb3).up hb4
      obtain ⟨A4, c4, rfl⟩ := hr4.1.form
      clear ho hb hb3 hb4 hr3 hq3
      generalize walkL k (pl k) (15 - pl k) (val k) = l4 at *
      have hbx : Below w4.heap.size w4 (w4.alloc (.cells #[.slice A4 l4.length c4] 22)) := (Below.refl _ _).alloc (Nat.le_refl _) _
      have hc5 : (w4.alloc (.cells #[.slice A4 l4.length c4] 22)).cell? ⟨w4.heap.size, 0, none⟩ = some (.slice A4 l4.length c4) := blk_cell (heap_alloc_new w4 _) 0
      go_wp2_with (at_builtin; refine wpList_append_row rfl (.tmp 21) (.tmp 26) _ rfl i0 Tryd.underlying34 hi hz hsz hby rfl (ho4.up hbx) rfl hc5 (hr4.up hbx) (Nat.le_refl _) hl1 (Nat.le_trans hq4.size hbx.size) ?_; intro v5 w5 ho5 hg5; have hq5 : Below w.heap.size w w5 := (ho4.up hbx).below (hq4.alloc hq4.size _) (Nat.le_trans hq4.size hbx.size) hg5)
      go_roundw
      case rel => exact ⟨k + 1, by omega, by go_num, by rw [hS.out]; exact ho5, hq5⟩
      case measure => simp [intOf]; omega
    · have i1 : ¬ (k : Int) < 18 := by omega
      obtain rfl : k = 18 := by omega
      have hHL : Hid (leafOf key (rowL (fun c => walkL c (pl c) (15 - pl c) (val c)) 18) = shaSum (formB (strBytes leafWord) ++ formBs (be key 8 :: rowL (fun c => walkL c (pl c) (15 - pl c) (val c)) 18))) := Lib.hid rfl
      have hl1 : (be key 8 :: rowL (fun c => walkL c (pl c) (15 - pl c) (val c)) 18).length ≤ 1000 := by rw [List.length_cons, rowL_length]; omega
      generalize be key 8 :: rowL (fun c => walkL c (pl c) (15 - pl c) (val c)) 18 = L at *
      have hp := ho.rowS.parts
      obtain ⟨Ap, cp, rfl⟩ := ho.form
      clear ho
      go_wp2_with fail
      refine (tagged_any leafWord _ L wr hp (by unfold maxLen leafWord; decide) hl1 fr ((hb.block _ hn0).trans HK.out)).mono ?_
      rintro e w4 ⟨v4, rfl, ho4, hb4⟩
      go_wp2_with fail
      go_ret
      rw [hHL.out]
      exact ⟨_, rfl, ho4.more hb.size, below_chain hb hb.size hb4⟩

set_option maxHeartbeats 4000000 in
set_option maxRecDepth 100000 in
theorem verify_yes (v1 v3 v4 : Value) (root msg sig : List UInt8) (key : Nat) (w : World) (h1 : Rd w w.heap.size v1 root) (h3 : Rd w w.heap.size v3 msg) (h4 : Rd w w.heap.size v4 sig) (hs : sig.length = 672) (hkey : key < 8) (hr : root.length = 32) (fr : TypeId × Nat × Nat) (hk : w.heap[0]? = some (.cells kVals fr.1 fr.2)) :
    Calls Tryd.prog 13 #[v1, .int .i64 (key : Int), v3, v4] w fun e w' => e = .returned (.bool (sameB (climbL key sig (verLeaf root key msg sig) 3) root)) ∧ Below w.heap.size w w' := by
  have hn0 := blk_lt hk
  have HK := Lib.hid hk
  clear hk
  obtain ⟨A1, c1, rfl⟩ := h1.formN hr
  obtain ⟨A3, c3, rfl⟩ := h3.form
  obtain ⟨A4, c4, rfl⟩ := h4.formN hs
  obtain ⟨-, b, o, rfl, hlb, -⟩ := h4.cell (by omega)
  have hmf : ∀ (fn : Fn) (first cap : Array Value) (w : World), (Instr.makeFunc fn first cap).run Tryd.prog w = .ok (.func fn first cap) w := fun _ _ _ _ => rfl
  have hbw : Below w.heap.size w (w.alloc (.cells #[.slice (some ⟨b, o, none⟩) 672 c4] 22)) := (Below.refl _ _).alloc (Nat.le_refl _) _
  have hcw : (w.alloc (.cells #[.slice (some ⟨b, o, none⟩) 672 c4] 22)).cell? ⟨w.heap.size, 0, none⟩ = some (.slice (some ⟨b, o, none⟩) 672 c4) := blk_cell (heap_alloc_new w _) 0
  have hsw : w.heap.size < (w.alloc (.cells #[.slice (some ⟨b, o, none⟩) 672 c4] 22)).heap.size := by simp
  have i1 : (0 : Int) ≤ (key : Int) := by omega
  have i2 : (key : Int) < 8 := by omega
  have HS := Lib.hid hs
  have HR := Lib.hid hr
  clear hs hr
  go_enter Tryd.func13, Tryd.ntmps13
  go_wp2_with fail
  generalize w.alloc (.cells #[.slice (some ⟨b, o, none⟩) 672 c4] 22) = w1 at *
  refine (digitsOf_any _ _ root msg key w1 (h1.up (Nat.le_refl _) hbw) (h3.up (Nat.le_refl _) hbw) (by omega) fr ((hbw.block _ hn0).trans HK.out)).mono ?_
  rintro e w2 ⟨rfl, hb2⟩
  have hD := digitsL_length root key msg
  have hDl := digitsL_le root key msg
  have hV : Hid (verLeaf root key msg sig = leafOf key (rowL (fun c => walkL c ((digitsL root key msg).getD c 0) (15 - (digitsL root key msg).getD c 0) (pieceL sig c)) 18)) := Lib.hid rfl
  generalize digitsL root key msg = D at *
  have hCl : (dcells D).length = 18 := by rw [dcells, List.length_map, hD]
  have HC1 : Hid (∀ v ∈ dcells D, v.oneCell' = true) := Lib.hid (by
    intro v hv
    simp only [dcells, List.mem_map] at hv
    obtain ⟨x, -, rfl⟩ := hv
    rfl)
  have HCe : Hid (∀ j (h : j < (dcells D).length), (dcells D)[j] = .int .i64 (D.getD j 0 : Int)) := Lib.hid (by
    intro j h
    have hj : j < D.length := by simpa [dcells] using h
    simp [dcells, intV, List.getD_eq_getElem?_getD, hj])
  have HCl := Lib.hid hCl
  have HD := Lib.hid hD
  have HDl := Lib.hid hDl
  have hq2 := below_chain hbw hbw.size hb2
  have hcw2 := (hb2.cell (p := ⟨w.heap.size, 0, none⟩) hsw).trans hcw
  clear hD hDl hCl hcw
  generalize dcells D = C at *
  go_wp2_with (
    with_reducible refine at_store 37 ?_
    change wpList _ _ _ _ _ (w2.alloc (.cells (arr18 []).toArray 37))
    have hR := heap_alloc_new w2 (.cells (arr18 []).toArray 37)
    have hbz : Below w2.heap.size w2 (w2.alloc (.cells (arr18 []).toArray 37)) := (Below.refl _ _).alloc (Nat.le_refl _) _
    generalize w2.alloc (.cells (arr18 []).toArray 37) = wz at *
    have hL := HCl.out
    have hcz : ∀ j, j < 18 → wz.cell? ⟨w2.heap.size, j, none⟩ = some (.int .i64 0) := fun j hj => by
      rw [blk_cell hR]; simpa using arr18_old [] j (by simp) hj
    refine wpList_store_mid rfl 37 (.tmp 9) (.tmp 32) rfl w2.heap.size 0 C.toArray rfl rfl ?_ ?_ ?_ ?_
    · intro j hj
      rw [List.size_toArray, hL] at hj
      rw [show (0 + j) = j by omega, hcz j hj, blk_free hR j]
      exact ⟨rfl, rfl⟩
    · rw [List.size_toArray, hL]; rfl
    · exact all_oneCell_toArray HC1.out
    rw [show C.toArray.toList = C by simp]
    have hck : ∀ j (h : j < C.length), (wz.setCells w2.heap.size 0 C).cell? ⟨w2.heap.size, 0 + j, none⟩ = some C[j] := World.cell?_setCells_in w2.heap.size C 0 wz (fun j hj => by rw [show (0 + j) = j by omega, hcz j (by omega)]; rfl)
    have hwf := Below.setCells (Nat.le_refl w2.heap.size) C 0 hbz
    clear hR hbz hcz
    generalize wz.setCells w2.heap.size 0 C = wf at *
    have HCK := Lib.hid hck
    clear hck hL
    apply wpList_nil)
  go_wp2_with fail
  have hqf := below_chain hq2 hq2.size hwf
  have hcwf := (hwf.cell (p := ⟨w.heap.size, 0, none⟩) (Nat.lt_of_lt_of_le hsw hb2.size)).trans hcw2
  have hsf : w.heap.size < wf.heap.size := Nat.lt_of_lt_of_le (Nat.lt_of_lt_of_le hsw hb2.size) hwf.size
  clear hcw2 hsw
  refine (leafV_any key _ _ (fun c => D.getD c 0) (fun c => pieceL sig c) wf (by omega) (fun c => getD_le D c HDl.out) fr ((hqf.block _ hn0).trans HK.out) ?_).mono ?_
  · intro c W hc hbW
    have hCc : c < C.length := by have := HCl.out; omega
    have hk1 := HCK.out c hCc
    rw [HCe.out c hCc, Nat.zero_add] at hk1
    have hlt1 := World.block_lt_of_cell? wf _ hk1
    have hqW := below_chain hqf hqf.size hbW
    refine (verFn_any w2.heap.size w.heap.size b o c4 c (D.getD c 0) sig W (h4.up (Nat.le_refl _) hqW) hc ((hbW.cell (p := ⟨w2.heap.size, c, none⟩) hlt1).trans hk1) ((hbW.cell (p := ⟨w.heap.size, 0, none⟩) hsf).trans hcwf)).mono ?_
    rintro e W' ⟨rfl, n, rfl⟩
    have hp := ((h4.part (32 * c) 32 (by omega)).below ((hqW.mono (Nat.le_refl _)).trans (below_drewN' (Below.refl _ _) n)))
    refine ⟨_, rfl, ⟨hp.more (Nat.le_trans hqW.size (by simp)), fun b' _ e => ?_⟩, below_drewN' (Below.refl _ _) n⟩
    simp only [Value.ownBlock, Option.some.injEq] at e
    exact .inl (by omega)
  rintro e w3 ⟨v3, rfl, ho3, hb3⟩
  rw [← hV.out] at ho3
  have hr3 : RdS w3 w.heap.size v3 (verLeaf root key msg sig) := ho3.rdS
  clear hV ho3 HCK HCe HCl HC1 HD HDl
  go_wp2_with fail
  go_loopw [10, 36] (fun hv i wr => ∃ l : Nat, l ≤ 3 ∧ i = .int .i64 (l : Int) ∧ RdS wr w.heap.size hv (climbL key sig (verLeaf root key msg sig) l) ∧ Below wf.heap.size wf wr)
    (fun _ i _ => 3 - (intOf i).toNat)
  case atStart => exact ⟨0, by omega, rfl, hr3, hb3⟩
  case round =>
    clear hr3 hb3
    obtain ⟨l, hl3, rfl, hr, hb⟩ := hrel
    have hqr := below_chain hqf hqf.size hb
    obtain ⟨Ah, ch, rfl⟩ := hr.1.form
    by_cases hlt : l < 3
    · have i3 : (l : Int) < 3 := by omega
      have i4 : (0 : Int) ≤ (l : Int) := by omega
      have hcr := (hb.cell (p := ⟨w.heap.size, 0, none⟩) hsf).trans hcwf
      have hrp := ((h4.up (Nat.le_refl _) hqr).part (32 * (18 + l)) 32 (by omega))
      have hHr := hr.1
      by_cases hpar : key / 2 ^ l % 2 = 0
      · have hbt : (bits .and .i64 ((key : Int) / 2 ^ l) 1 == 0) = true := by rw [bit_at _ _ (by omega), hpar]; rfl
        have hS : Hid (climbL key sig (verLeaf root key msg sig) (l + 1) = nodeL (climbL key sig (verLeaf root key msg sig) l) (pieceL sig (18 + l))) := Lib.hid (by rw [climbL, if_pos hpar])
        clear hpar
        obtain ⟨L2, hL2⟩ : ∃ L, L = climbL key sig (verLeaf root key msg sig) (l + 1) := ⟨_, rfl⟩
        rw [← hL2] at hS
        have HL2 := Lib.hid hL2
        clear hL2
        generalize climbL key sig (verLeaf root key msg sig) l = L at *
        have hp := partsOf2 wr _ _ L (pieceL sig (18 + l)) 22 hHr hrp
        have hbx : Below wr.heap.size wr (wr.alloc (.cells #[.slice Ah L.length ch, .slice (some ⟨b, o + 32 * (18 + l), none⟩) 32 (c4 - 32 * (18 + l))] 22)) := (Below.refl _ _).alloc (Nat.le_refl _) _
        have hbz := below_chain hqr hqr.size hbx
        have hbf := below_chain hb hb.size hbx
        go_wp2_with (go_at_call 24; refine (piece_any b o c4 (18 + l) sig wr (h4.up (Nat.le_refl _) hqr) (by omega)).mono ?_; rintro e w' ⟨rfl, rfl⟩)
        refine (tagged_any nodeWord _ [L, pieceL sig (18 + l)] _ hp (by unfold maxLen nodeWord; decide) (by simp) fr ((hbz.block _ hn0).trans HK.out)).mono ?_
        rintro e w5 ⟨v5, rfl, ho5, hb5⟩
        have e5 : shaSum (formB (strBytes nodeWord) ++ formBs [L, pieceL sig (18 + l)]) = L2 := hS.out.symm
        rw [e5] at ho5
        clear e5
        have hr5 : RdS w5 w.heap.size v5 L2 := ho5.rdS
        have hb6 := below_chain hbf hbf.size hb5
        clear hbz hbx hp ho5 hr hb hqr hrp hHr hcr hbf
        go_wp2_with fail
        go_roundw
        case rel => exact ⟨l + 1, by omega, by go_num, by rw [← HL2.out]; exact hr5, hb6⟩
        case measure => simp [intOf]; omega
      · have hbt : (bits .and .i64 ((key : Int) / 2 ^ l) 1 == 0) = false := by
          have h2 : key / 2 ^ l % 2 = 1 := by omega
          rw [bit_at _ _ (by omega), h2]; rfl
        have hS : Hid (climbL key sig (verLeaf root key msg sig) (l + 1) = nodeL (pieceL sig (18 + l)) (climbL key sig (verLeaf root key msg sig) l)) := Lib.hid (by rw [climbL, if_neg hpar])
        clear hpar
        obtain ⟨L2, hL2⟩ : ∃ L, L = climbL key sig (verLeaf root key msg sig) (l + 1) := ⟨_, rfl⟩
        rw [← hL2] at hS
        have HL2 := Lib.hid hL2
        clear hL2
        generalize climbL key sig (verLeaf root key msg sig) l = L at *
        have hp := partsOf2 wr _ _ (pieceL sig (18 + l)) L 22 hrp hHr
        have hbx : Below wr.heap.size wr (wr.alloc (.cells #[.slice (some ⟨b, o + 32 * (18 + l), none⟩) 32 (c4 - 32 * (18 + l)), .slice Ah L.length ch] 22)) := (Below.refl _ _).alloc (Nat.le_refl _) _
        have hbz := below_chain hqr hqr.size hbx
        have hbf := below_chain hb hb.size hbx
        go_wp2_with (go_at_call 24; refine (piece_any b o c4 (18 + l) sig wr (h4.up (Nat.le_refl _) hqr) (by omega)).mono ?_; rintro e w' ⟨rfl, rfl⟩)
        refine (tagged_any nodeWord _ [pieceL sig (18 + l), L] _ hp (by unfold maxLen nodeWord; decide) (by simp) fr ((hbz.block _ hn0).trans HK.out)).mono ?_
        rintro e w5 ⟨v5, rfl, ho5, hb5⟩
        have e5 : shaSum (formB (strBytes nodeWord) ++ formBs [pieceL sig (18 + l), L]) = L2 := hS.out.symm
        rw [e5] at ho5
        clear e5
        have hr5 : RdS w5 w.heap.size v5 L2 := ho5.rdS
        have hb6 := below_chain hbf hbf.size hb5
        clear hbz hbx hp ho5 hr hb hqr hrp hHr hcr hbf
        go_wp2_with fail
        go_roundw
        case rel => exact ⟨l + 1, by omega, by go_num, by rw [← HL2.out]; exact hr5, hb6⟩
        case measure => simp [intOf]; omega
    · have i3 : ¬ (l : Int) < 3 := by omega
      obtain rfl : l = 3 := by omega
      have hr1 := h1.up (Nat.le_refl _) hqr
      obtain ⟨L, hL⟩ : ∃ L, L = climbL key sig (verLeaf root key msg sig) 3 := ⟨_, rfl⟩
      rw [← hL] at hr ⊢
      have HL := Lib.hid hL
      clear hL
      go_wp2_with fail
      refine (equal_any _ _ L root wr hr.1 hr1).mono ?_
      rintro e w' ⟨rfl, rfl⟩
      go_wp2_with fail
      go_ret
      rw [← HL.out]
      exact ⟨rfl, hqr⟩

theorem verB_no {root : List UInt8} {key : Int} {msg sig : List UInt8} (h : ¬ (sig.length = 672 ∧ 0 ≤ key ∧ key < 8 ∧ root.length = 32)) : verB root key msg sig = false := by
  unfold verB; rw [decide_eq_false h]; rfl
theorem verB_yes {root : List UInt8} {key : Int} {msg sig : List UInt8} (h : sig.length = 672 ∧ 0 ≤ key ∧ key < 8 ∧ root.length = 32) : verB root key msg sig = sameB (climbL key.toNat sig (verLeaf root key.toNat msg sig) 3) root := by
  unfold verB; rw [decide_eq_true h]; rfl

set_option maxHeartbeats 4000000 in
theorem verify_no (v1 v3 v4 : Value) (root msg sig : List UInt8) (key : Int) (w : World) (h1 : Rd w w.heap.size v1 root) (h4 : Rd w w.heap.size v4 sig) (hno : ¬ (sig.length = 672 ∧ 0 ≤ key ∧ key < 8 ∧ root.length = 32)) :
    Calls Tryd.prog 13 #[v1, .int .i64 key, v3, v4] w fun e w' => e = .returned (.bool false) ∧ Below w.heap.size w w' := by
  obtain ⟨A1, c1, rfl⟩ := h1.form
  obtain ⟨A4, c4, rfl⟩ := h4.form
  have hbw : Below w.heap.size w (w.alloc (.cells #[.slice A4 sig.length c4] 22)) := (Below.refl _ _).alloc (Nat.le_refl _) _
  by_cases hs : sig.length = 672
  · by_cases hk0 : key < 0
    · rw [hs]
      clear hs hno h1 h4
      go_enter Tryd.func13, Tryd.ntmps13
      go_wp2_with fail
      go_ret
      exact ⟨rfl, (Below.refl _ _).alloc (Nat.le_refl _) _⟩
    · by_cases hk8 : 8 ≤ key
      · rw [hs]
        have hk1 : 0 ≤ key := by omega
        clear hs hno h1 h4 hk0
        go_enter Tryd.func13, Tryd.ntmps13
        go_wp2_with fail
        go_ret
        exact ⟨rfl, (Below.refl _ _).alloc (Nat.le_refl _) _⟩
      · have hr : ¬ root.length = 32 := fun h => hno ⟨hs, by omega, by omega, h⟩
        have hr2 : ((root.length : Int) != 32) = true := by rw [bne_iff_ne]; omega
        rw [hs]
        have hk1 : 0 ≤ key := by omega
        have hk9 : key < 8 := by omega
        clear hs hno h1 h4 hk0 hk8 hr
        go_enter Tryd.func13, Tryd.ntmps13
        go_wp2_with fail
        go_ret
        exact ⟨rfl, (Below.refl _ _).alloc (Nat.le_refl _) _⟩
  · have hr2 : ((sig.length : Int) != 672) = true := by rw [bne_iff_ne]; omega
    clear hs hno h1 h4
    go_enter Tryd.func13, Tryd.ntmps13
    go_wp2_with fail
    go_ret
    exact ⟨rfl, hbw⟩

theorem verify_any (v1 v3 v4 : Value) (root msg sig : List UInt8) (key : Int) (w : World) (h1 : Rd w w.heap.size v1 root) (h3 : Rd w w.heap.size v3 msg) (h4 : Rd w w.heap.size v4 sig) (fr : TypeId × Nat × Nat) (hk : w.heap[0]? = some (.cells kVals fr.1 fr.2)) :
    Calls Tryd.prog 13 #[v1, .int .i64 key, v3, v4] w fun e w' => e = .returned (.bool (verB root key msg sig)) ∧ Below w.heap.size w w' := by
  by_cases h : sig.length = 672 ∧ 0 ≤ key ∧ key < 8 ∧ root.length = 32
  · rw [verB_yes h]
    obtain ⟨hs, h0, h8, hr⟩ := h
    obtain ⟨k, rfl⟩ := Int.eq_ofNat_of_zero_le h0
    exact verify_yes v1 v3 v4 root msg sig k w h1 h3 h4 hs (by omega) hr fr hk
  · rw [verB_no h]
    exact verify_no v1 v3 v4 root msg sig key w h1 h4 h
end Go.Proofs.YtgomhojaappbnaaDoor
